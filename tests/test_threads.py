import unittest

from bendfronts.threads import pieces, threads, to_right, turns, twists
from samples import (
    B, C, CURLED, E, EMPTY, EVEN_LINK, ODD_LINK, ROUND, SAMPLES, THREE_BIRTHS, TREFOIL, ZIGZAG,
    check_own, greatest_drawings, short_drawings, told,
)

# Two zigzags on one strand, both down, or the one down and the other one up.
TWICE_DOWN = "b0 b1 e0 b1 e0 e0"
DOWN_AND_UP = "b0 b1 e0 b0 e1 e0"

# Pairs of drawings of one piece, the second one a move away from the first.
MOVED = (
    (ROUND, CURLED),
    (ROUND, "b0 b1 c0 e1 e0"),
    (TREFOIL, "b0 b2 c1 c1 c1 e2 e0"),
    (TREFOIL, "b0 b1 c2 c1 c1 c1 c1 e0 e0"),
    (TREFOIL, "b0 b2 c1 c1 c1 c1 c0 e1 e0"),
    ("b0 b0 c1 c2 c1 e0 e0", "b0 b0 c2 c1 c2 e0 e0"),
    (ZIGZAG, "b0 b0 c1 c0 e0 e0"),
)


def short_and_greatest():
    return list(short_drawings(7)) + greatest_drawings(200)


def rows_and_joins(drawing):
    """The threads at each place, and the pairs (upper, lower) of those born, and of those ending, together."""
    row, born, ended, many, rows = [], [], [], 0, []
    for kind, k in drawing:
        rows.append(row)
        if kind == B:
            row = row[:k] + [many, many + 1] + row[k:]
            born.append((many, many + 1))
            many += 2
        elif kind == C:
            row = row[:k] + [row[k + 1], row[k]] + row[k + 2:]
        else:
            ended.append((row[k], row[k + 1]))
            row = row[:k] + row[k + 2:]
    return rows + [row], born, ended


def pieces_by_hand(drawing):
    """Each thread's piece: labels are lowered across joins till nothing changes, then numbered in order."""
    rows, born, ended = rows_and_joins(drawing)
    label = list(range(2 * len(born)))
    changed = True
    while changed:
        changed = False
        for one, other in born + ended:
            if label[one] != label[other]:
                label[one] = label[other] = min(label[one], label[other])
                changed = True
    order = sorted(set(label))
    return [order.index(one) for one in label]


def steps_by_hand(drawing):
    """For each piece all its steps as it is gone along, 1 down and -1 up; and the threads gone to the right."""
    rows, born, ended = rows_and_joins(drawing)
    told_pieces = pieces_by_hand(drawing)
    found, rightward = [], []
    for piece in sorted(set(told_pieces)):
        first = at = told_pieces.index(piece)
        steps = []
        while True:
            rightward.append(at)
            (upper, lower), = [pair for pair in ended if at in pair]
            steps.append(1 if at == upper else -1)
            at = lower if at == upper else upper
            (upper, lower), = [pair for pair in born if at in pair]
            steps.append(1 if at == upper else -1)
            at = lower if at == upper else upper
            if at == first:
                break
        found.append(steps)
    return found, rightward


class Threads(unittest.TestCase):
    def test_the_empty_drawing(self):
        self.assertEqual(threads([]), [[]])

    def test_threads_at_each_place(self):
        self.assertEqual(threads(told(ROUND)), [[], [0, 1], []])
        self.assertEqual(threads(told(TREFOIL)), [
            [], [0, 1], [0, 1, 2, 3], [0, 2, 1, 3], [0, 1, 2, 3], [0, 2, 1, 3], [1, 3], [],
        ])
        self.assertEqual(threads(told(ZIGZAG)), [[], [0, 1], [0, 2, 3, 1], [3, 1], []])
        self.assertEqual(threads(told(THREE_BIRTHS)), [
            [], [0, 1], [2, 3, 0, 1], [4, 5, 2, 3, 0, 1], [4, 3, 0, 1], [4, 3], [],
        ])

    def test_threads_go_through_crossings(self):
        self.assertEqual(threads(told("b0 b2 c2 c0 c1 e0 e0")), [
            [], [0, 1], [0, 1, 2, 3], [0, 1, 3, 2], [1, 0, 3, 2], [1, 3, 0, 2], [0, 2], [],
        ])

    def test_numbers_go_on_behind_ends(self):
        self.assertEqual(threads(told("b0 e0 b0 b2 e2 e0")), [[], [0, 1], [], [2, 3], [2, 3, 4, 5], [2, 3], []])

    def test_all_short_and_some_of_the_greatest_drawings(self):
        for drawing in short_and_greatest():
            if threads(drawing) != rows_and_joins(drawing)[0]:
                self.fail(drawing)


class Pieces(unittest.TestCase):
    def check(self, text, due):
        self.assertEqual(pieces(told(text)), due)

    def test_the_empty_drawing(self):
        self.check(EMPTY, [])

    def test_joined_by_births_and_by_ends(self):
        self.check(ROUND, [0, 0])
        self.check(TREFOIL, [0, 0, 0, 0])
        self.check(ZIGZAG, [0, 0, 0, 0])
        self.check(ODD_LINK, [0, 0, 1, 1])
        self.check(EVEN_LINK, [0, 0, 1, 1])
        self.check("b0 b2 e1 e0", [0, 0, 0, 0])

    def test_numbered_by_their_least_threads(self):
        self.check(THREE_BIRTHS, [0, 0, 1, 1, 1, 1])
        self.check("b0 e0 b0 e0 b0 e0", [0, 0, 1, 1, 2, 2])
        # Threads 0, 1, 4, 5 hang together, and threads 2, 3 end ahead of them.
        self.check("b0 b2 b4 e2 e1 e0", [0, 0, 1, 1, 0, 0])
        self.check("b0 b0 b0 b0 e1 e3 e0 e0", [0, 0, 0, 0, 1, 1, 1, 1])

    def test_a_crossing_joins_nothing(self):
        self.check("b0 b2 c1 c1 e2 e0", [0, 0, 1, 1])
        self.check("b0 b2 c1 e0 e0", [0, 0, 0, 0])

    def test_all_short_and_some_of_the_greatest_drawings(self):
        for drawing in short_and_greatest():
            if pieces(drawing) != pieces_by_hand(drawing):
                self.fail(drawing)


class Turns(unittest.TestCase):
    def check(self, text, due):
        self.assertEqual(turns(told(text)), due)

    def test_the_empty_drawing(self):
        self.check(EMPTY, [])

    def test_one_piece(self):
        self.check(ROUND, [0])
        self.check(TREFOIL, [0])
        self.check(CURLED, [0])
        self.check(ZIGZAG, [1])
        self.check(TWICE_DOWN, [2])

    def test_more_steps_up_count_as_more_steps_down(self):
        self.check("b0 b1 e2 e0", [1])
        self.check("b0 c0 e0", [1])
        self.check("b0 b2 e1 e0", [1])

    def test_steps_both_ways_fall_out(self):
        self.check(DOWN_AND_UP, [0])
        self.check("b0 b1 c0 c0 c0 e0 e0", [0])

    def test_several_pieces(self):
        self.check(ODD_LINK, [0, 0])
        self.check(THREE_BIRTHS, [0, 1])
        self.check("b0 b1 e1 e0", [0, 0])
        self.check("b0 b1 b2 e0 e0 e0", [1, 0])
        self.check("b0 e0 b0 c0 e0 " + TWICE_DOWN, [0, 1, 2])

    def test_all_short_and_some_of_the_greatest_drawings(self):
        for drawing in short_and_greatest():
            steps = steps_by_hand(drawing)[0]
            due = [abs(one.count(1) - one.count(-1)) // 2 for one in steps]
            if turns(drawing) != due:
                self.fail(drawing)


class ToRight(unittest.TestCase):
    def check(self, text, due):
        self.assertEqual(to_right(told(text)), due)

    def test_the_empty_drawing(self):
        self.check(EMPTY, [])

    def test_one_piece(self):
        self.check(ROUND, [True, False])
        self.check(TREFOIL, [True, False, False, True])
        self.check(ZIGZAG, [True, False, False, True])
        self.check(CURLED, [True, False, False, True])

    def test_each_piece_begins_to_the_right(self):
        self.check(ODD_LINK, [True, False, True, False])
        self.check(THREE_BIRTHS, [True, False, True, False, True, False])

    def test_truths(self):
        for text in SAMPLES:
            self.assertLessEqual({type(one) for one in to_right(told(text))}, {bool})

    def test_all_short_and_some_of_the_greatest_drawings(self):
        for drawing in short_and_greatest():
            rightward = steps_by_hand(drawing)[1]
            if to_right(drawing) != [one in rightward for one in range(len(pieces(drawing)))]:
                self.fail(drawing)


class Twists(unittest.TestCase):
    def check(self, text, due):
        self.assertEqual(twists(told(text)), due)

    def test_the_empty_drawing(self):
        self.check(EMPTY, 0)

    def test_ends_alone(self):
        self.check(ROUND, -1)
        self.check(ZIGZAG, -2)
        self.check("b0 e0 b0 e0 b0 e0", -3)

    def test_even_crossings(self):
        self.check(TREFOIL, 3 - 2)
        self.check(EVEN_LINK, 2 - 2)
        self.check(CURLED, 1 - 2)

    def test_odd_crossings(self):
        self.check(ODD_LINK, -2 - 2)
        self.check("b0 c0 e0", -1 - 1)
        self.check("b0 c0 c0 e0", -2 - 1)

    def test_even_and_odd_crossings(self):
        self.check("b0 b2 c1 c1 c1 c0 e0 e0", 3 - 1 - 2)

    def test_all_short_and_some_of_the_greatest_drawings(self):
        for drawing in short_and_greatest():
            rightward = steps_by_hand(drawing)[1]
            due = -[kind for kind, k in drawing].count(E)
            for (kind, k), row in zip(drawing, threads(drawing)):
                if kind == C:
                    due += 1 if (row[k] in rightward) == (row[k + 1] in rightward) else -1
            if twists(drawing) != due:
                self.fail(drawing)


class Kept(unittest.TestCase):
    def test_beyond_the_bounds_nothing_is_refused(self):
        long = told("b0 c0 e0 " * 20)
        self.assertEqual(len(threads(long)), 61)
        self.assertEqual(pieces(long), [at // 2 for at in range(40)])
        self.assertEqual(turns(long), [1] * 20)
        self.assertEqual(to_right(long), [True, False] * 20)
        self.assertEqual(twists(long), -40)

    def test_answers_are_the_askers_own(self):
        for ask in (threads, pieces, turns, to_right):
            for text in SAMPLES:
                with self.subTest(ask=ask.__name__, text=text):
                    check_own(self, ask, told(text))

    def test_twists_changes_nothing(self):
        handed = told(TREFOIL)
        self.assertIs(type(twists(handed)), int)
        self.assertEqual(handed, told(TREFOIL))

    def test_a_move_keeps_turns_and_twists(self):
        for one, other in MOVED:
            with self.subTest(one=one, other=other):
                self.assertEqual(max(pieces(told(one))), 0)
                self.assertEqual(turns(told(other)), turns(told(one)))
                self.assertEqual(twists(told(other)), twists(told(one)))


if __name__ == "__main__":
    unittest.main()
