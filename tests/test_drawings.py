import itertools
import unittest

from bendfronts.drawings import crossings_of, ends_of, is_drawing, names_of, strands
from samples import (
    B, C, E, ROUND, SAMPLES, THREE_BIRTHS, TREFOIL, check_own, greatest_drawings, short_drawings, told,
)


def drawn_by_hand(letters):
    """Whether letters make a drawing, by a row of strands that is really kept (few letters only)."""
    row = []
    for kind, k in letters:
        if kind == B and k in range(len(row) + 1):
            row.insert(k, "x")
            row.insert(k, "x")
        elif kind in (C, E) and k in range(len(row)) and k + 1 in range(len(row)):
            if kind == E:
                del row[k], row[k]
        else:
            return False
    return row == []


class IsDrawing(unittest.TestCase):
    def yes(self, thing):
        self.assertIs(is_drawing(thing), True, thing)

    def no(self, thing):
        self.assertIs(is_drawing(thing), False, thing)

    def test_ordinary_drawings(self):
        for text in SAMPLES:
            self.yes(told(text))

    def test_all_short_rows_of_letters(self):
        letters = list(itertools.product((B, C, E), range(-1, 4)))
        for many in range(5):
            for row in itertools.product(letters, repeat=many):
                if is_drawing(list(row)) is not drawn_by_hand(row):
                    self.fail(row)

    def test_all_drawings_of_six_letters(self):
        for drawing in short_drawings(6):
            self.yes(drawing)

    def test_at_most_eight_strands(self):
        self.yes(told("b0 b0 b0 b0 e0 e0 e0 e0"))
        self.yes(told("b0 b2 b4 b6 c3 e6 e4 e2 e0"))
        self.no(told("b0 b0 b0 b0 b0 e0 e0 e0 e0 e0"))
        self.no(told("b0 e0 b0 b0 b0 b0 b8 e8 e0 e0 e0 e0"))

    def test_at_most_eight_births(self):
        self.yes(told("b0 e0 " * 8))
        self.no(told("b0 e0 " * 9))
        self.yes(told("b0 b0 b0 b0 e0 e0 e0 e0 " * 2))
        self.no(told("b0 b0 b0 e0 e0 e0 " * 3))

    def test_at_most_twelve_crossings(self):
        self.yes(told("b0" + " c0" * 12 + " e0"))
        self.no(told("b0" + " c0" * 13 + " e0"))
        self.yes(told("b0 b0" + " c0 c1 c2" * 4 + " e0 e0"))
        self.no(told("b0 b0" + " c0 c1 c2" * 4 + " c1 e0 e0"))

    def test_all_three_bounds_at_once(self):
        four = "b0 b2 b4 b6 c1 c3 c5 c1 c3 c5 e6 e4 e2 e0 "
        self.yes(told(four * 2))
        self.no(told(four * 2 + "b0 e0"))

    def test_some_of_the_greatest_drawings(self):
        for drawing in greatest_drawings(100):
            self.yes(drawing)
            at = strands(drawing).index(8)
            self.no(drawing[:at] + [(C, 0)] + drawing[at:])
            self.no(drawing[:at] + [(B, 8), (E, 8)] + drawing[at:])
            self.no(drawing[:-1])

    def test_where_a_birth_can_stand(self):
        self.no(told("b-1 e0"))
        self.no(told("b1 e0"))
        for k in range(3):
            self.yes([(B, 0), (B, k), (E, 0), (E, 0)])
        for k in (-1, 3, -(10 ** 59), 10 ** 59):
            self.no([(B, 0), (B, k), (E, 0), (E, 0)])

    def test_where_a_crossing_can_stand(self):
        self.no(told("c0"))
        for k in range(3):
            self.yes([(B, 0), (B, 0), (C, k), (E, 0), (E, 0)])
        for k in (-1, 3, -(10 ** 59), 10 ** 59):
            self.no([(B, 0), (B, 0), (C, k), (E, 0), (E, 0)])

    def test_where_an_end_can_stand(self):
        self.no(told("e0"))
        for k in range(3):
            self.yes([(B, 0), (B, 0), (E, k), (E, 0)])
        for k in (-1, 3, -(10 ** 59), 10 ** 59):
            self.no([(B, 0), (B, 0), (E, k), (E, 0)])
        self.no(told("b0 e0 e0 b0"))

    def test_strands_left_over(self):
        self.no(told("b0"))
        self.no(told("b0 b0 e1"))
        self.no(told("b0 c0"))

    def test_things_that_are_no_drawing(self):
        for thing in (
            None, True, False, 0, 1, -1, 10 ** 59, "", "b0 e0", "-", (), ((B, 0), (E, 0)),
            [[]], [()], [None], [0], [""], ["b0", "e0"], [[B, 0], [E, 0]], [(B, 0), [E, 0]], [[(B, 0), (E, 0)]],
            [(B,), (E,)], [(B, 0, 0), (E, 0, 0)], [(0, B), (0, E)], [(B, "0"), (E, "0")], [(B, None), (E, None)],
            [(B, 0), (E, (0,))], [(B, 0), ((E,), 0)], [([B], 0), ([E], 0)], [(B, 0), (None, 0)], [(B, 0), (0, 0)],
            [("b", 0), ("e", 0)], [("Born", 0), ("End", 0)], [("", 0)], [(B, 0), (E, 0), None], [(B, 0), (E, 0), ()],
            [(B, 0), ("bend", 0), (E, 0)], [(B, 0), (E, 0), ("born ", 0), (E, 0)], ["b0"], [("ab",)],
        ):
            self.no(thing)

    def test_a_truth_is_no_whole_number(self):
        self.no([(B, False), (E, 0)])
        self.no([(B, 0), (E, False)])
        self.no([(B, 0), (C, False), (E, 0)])
        self.no([(B, 0), (B, True), (E, 1), (E, 0)])
        self.no([(B, 0), (B, 0), (C, True), (E, 0), (E, 0)])
        self.no([(B, 0), (B, 0), (E, True), (E, 0)])

    def test_what_is_handed_in_stays(self):
        for thing in (told(TREFOIL), [[B, 0], [E, 0]], [(B, 0), [[C], []]]):
            kept = repr(thing)
            is_drawing(thing)
            self.assertEqual(repr(thing), kept)


class Told(unittest.TestCase):
    def test_the_empty_drawing(self):
        self.assertEqual(strands([]), [0])
        for ask in (crossings_of, ends_of, names_of):
            self.assertEqual(ask([]), [])

    def test_strands(self):
        self.assertEqual(strands(told(ROUND)), [0, 2, 0])
        self.assertEqual(strands(told(TREFOIL)), [0, 2, 4, 4, 4, 4, 2, 0])
        self.assertEqual(strands(told(THREE_BIRTHS)), [0, 2, 4, 6, 4, 2, 0])

    def test_crossings_ends_and_names(self):
        for text, crossings, ends, names in (
            (ROUND, [], [1], [1]),
            (TREFOIL, [2, 3, 4], [5, 6], [2, 3, 4, 5, 6]),
            (THREE_BIRTHS, [], [3, 4, 5], [3, 4, 5]),
            ("b0 e0 b0 c0 e0 b0 b1 c2 e0 c0 e0", [3, 7, 9], [1, 4, 8, 10], [1, 3, 4, 7, 8, 9, 10]),
        ):
            self.assertEqual(crossings_of(told(text)), crossings)
            self.assertEqual(ends_of(told(text)), ends)
            self.assertEqual(names_of(told(text)), names)

    def test_some_of_the_greatest_drawings(self):
        for drawing in greatest_drawings(100):
            kinds = [kind for kind, k in drawing]
            ahead = [kinds[:t] for t in range(len(drawing) + 1)]
            self.assertEqual(strands(drawing), [2 * (row.count(B) - row.count(E)) for row in ahead])
            self.assertEqual(max(strands(drawing)), 8)
            self.assertEqual(crossings_of(drawing), [t for t, kind in enumerate(kinds) if kind == C])
            self.assertEqual(len(crossings_of(drawing)), 12)
            self.assertEqual(ends_of(drawing), [t for t, kind in enumerate(kinds) if kind == E])
            self.assertEqual(names_of(drawing), sorted(crossings_of(drawing) + ends_of(drawing)))

    def test_beyond_the_bounds_nothing_is_refused(self):
        long = told("b0 c0 e0 " * 20)
        self.assertEqual(strands(long), [0, 2, 2] * 20 + [0])
        self.assertEqual(crossings_of(long), list(range(1, 60, 3)))
        self.assertEqual(ends_of(long), list(range(2, 60, 3)))
        self.assertEqual(len(names_of(long)), 40)

    def test_kinds_of_the_answers(self):
        for ask in (strands, crossings_of, ends_of, names_of):
            answer = ask(told(TREFOIL))
            self.assertIs(type(answer), list)
            self.assertEqual({type(one) for one in answer}, {int})

    def test_answers_are_the_askers_own(self):
        for ask in (strands, crossings_of, ends_of, names_of):
            for text in SAMPLES:
                with self.subTest(ask=ask.__name__, text=text):
                    check_own(self, ask, told(text))


if __name__ == "__main__":
    unittest.main()
