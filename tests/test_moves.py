import random
import time
import unittest

from bendfronts import errors
from bendfronts.drawings import crossings_of, is_drawing, strands
from bendfronts.moves import moved, moves, way_back
from byhand import letters_by_hand, slid_by_hand
from samples import (
    B, C, CURLED, E, EMPTY, ROUND, SAMPLES, SIDES, TREFOIL, ZIGZAG,
    all_moves, banded_drawings, check_own, greatest_drawings, has_eight_strands, letters_at, short_drawings, told, written,
)

THREES = "b0 b2 c1 c0 c1 c2 c1 c2 e0 e0"

# Rows of the slide at their bounds: two letters, what they become, None where it can't be done.
BOUNDS = (
    ("c0 c2", "c2 c0"), ("c2 c0", "c0 c2"), ("c0 c1", None), ("c1 c0", None), ("c1 c1", None), ("c0 c4", "c4 c0"),
    ("b1 c3", "c1 b1"), ("b1 c2", None), ("b1 c1", None), ("b2 c1", None), ("b2 c0", "c0 b2"), ("b0 c4", "c2 b0"),
    ("b1 b3", "b1 b1"), ("b1 b2", None), ("b1 b1", "b1 b3"), ("b1 b0", "b0 b3"), ("b0 b4", "b2 b0"),
    ("b1 e4", "e2 b1"), ("b1 e3", None), ("b1 e2", None), ("b1 e1", None), ("b1 e0", None), ("b2 e0", None),
    ("b3 e0", "e0 b1"), ("b4 e1", "e1 b2"),
    ("c1 b0", "b0 c3"), ("c1 b1", "b1 c3"), ("c1 b2", None), ("c1 b3", "b3 c1"), ("c0 b4", "b4 c0"),
    ("c2 e0", "e0 c0"), ("c2 e1", None), ("c1 e1", None), ("c0 e1", None), ("c0 e2", "e2 c0"), ("c1 e0", None),
    ("e1 c1", "c3 e1"), ("e1 c0", None), ("e2 c0", "c0 e2"), ("e1 c2", "c4 e1"), ("e0 c0", "c2 e0"), ("e3 c0", "c0 e3"),
    ("e1 b0", "b0 e3"), ("e1 b1", None), ("e1 b2", "b4 e1"), ("e0 b0", None), ("e0 b1", "b3 e0"), ("e2 b0", "b0 e4"),
    ("e1 e1", "e3 e1"), ("e1 e0", None), ("e2 e0", "e0 e0"), ("e0 e0", "e2 e0"), ("e0 e1", "e3 e0"), ("e3 e1", "e1 e1"),
)

# Things that are no move of any drawing.
NO_MOVES = (
    None, True, False, 0, 1, -1, "", "slide", "slide 0", [], (), [()], ["slide", 0], ("slide",), ("slide", 0, 0),
    ("slide", 0, "above"), ("slide", True), ("slide", False), ("slide", None), ("slide", "0"), ("slide", [0]),
    ("slide", (0,)), ("slide", []), ("slide", -1), ("slide", -7), ("slide", 10 ** 59), ("slide", -(10 ** 59)),
    ("Slide", 0), ("slides", 0), ("", 0), (None, 0), (True, 0), (0, "slide"), (["slide"], 0), (("slide",), 0), ([], 0),
    ([[[["slide"]]]], 0), (("slide", 0),), [("slide", 0)], ("born", 0), ("cross", 2), ("end", 5),
    ("three",), ("three", 2, "above"), ("three", True), ("pull",), ("pull", None), ("pull", 0, "below"), ("uncurl",),
    ("uncurl", 0, 0, "above"), ("push",), ("push", 0), ("push", 0, None), ("push", 0, "Above"), ("push", 0, "up"),
    ("push", 0, ""), ("push", 0, ["above"]), ("push", 0, ("above",)), ("push", 0, 0), ("push", 0, True),
    ("push", 0, "below", "below"), ("push", "below", 0), ("push", True, "below"), ("push", [0], "below"),
    ("push", 0, 0, "below"), ("curl",), ("curl", 1), ("curl", 1, 0), ("curl", 1, "above"), ("curl", 1, 0, "left"),
    ("curl", 1, 0, None), ("curl", 1, 0, ["above"]), ("curl", 1, True, "above"), ("curl", True, 0, "above"),
    ("curl", 1, False, "above"), ("curl", 1, "0", "above"), ("curl", 1, None, "above"), ("curl", 1, [0], "above"),
    ("curl", [1], 0, "above"), ("curl", 1, 0, "above", "above"), ("curl", "above", 1, 0), ("curl", -1, 0, "above"),
    ("curl", 1, -1, "above"), ("curl", 1, -1, "below"), ("curl", 10 ** 59, 0, "above"), ("curl", 1, 10 ** 59, "above"),
)


def holding(letters, many):
    """A drawing with these letters where there are so many strands, and the number of the first; None without one."""
    drawing = [(B, 0)] * (many // 2) + letters
    left = many + sum({B: 2, C: 0, E: -2}[kind] for kind, k in letters)
    drawing += [(E, 0)] * (left // 2)
    return (drawing, many // 2) if is_drawing(drawing) else None


def held(text):
    """A drawing with these letters where there are as few strands as can be, and the number of the first."""
    return next(found for found in (holding(told(text), many) for many in (0, 2, 4, 6, 8)) if found is not None)


def moved_by_hand(drawing, move):
    """What a drawing becomes by a move, None where it can't be done."""
    found = letters_by_hand(drawing, move)
    if found is None:
        return None
    behind = drawing[:move[1]] + found[1] + drawing[move[1] + found[0]:]
    return behind if is_drawing(behind) else None


def some_drawings():
    """Drawings of all sizes, many of them with moves of each kind."""
    drawings = [told(text) for text in SAMPLES] + list(short_drawings(6))[::3] + greatest_drawings(10)
    drawings += banded_drawings(25, range(1, 9), range(0, 13)) + wandered(40)
    return drawings


def wandered(many):
    """Drawings that come of others by drawn moves."""
    chance, found = random.Random(10), []
    while len(found) < many:
        drawing = told(chance.choice((ROUND, TREFOIL, ZIGZAG, CURLED, THREES, THREES)))
        for step in range(chance.randrange(1, 16)):
            done = [move for move in all_moves(drawing) if moved_by_hand(drawing, move) is not None]
            # The word first, so that threes come as often as curls.
            word = chance.choice(sorted({move[0] for move in done}))
            drawing = moved_by_hand(drawing, chance.choice([move for move in done if move[0] == word]))
        found.append(drawing)
    return found


class Case(unittest.TestCase):
    def check(self, text, move, due):
        """That a move leads from one drawing to another one, and its way back home."""
        self.assertEqual(written(moved(told(text), move)), due)
        back = way_back(told(text), move)
        self.assertEqual(written(moved(told(due), back)), text)
        self.assertEqual(way_back(told(due), back), move)

    def refused(self, drawing, move):
        for ask in (moved, way_back):
            with self.assertRaises(errors.FrontError) as caught:
                ask(drawing, move)
            self.assertIs(type(caught.exception), errors.NoMove, (drawing, move))


class Slide(Case):
    def test_rows_at_their_bounds(self):
        for text, due in BOUNDS:
            with self.subTest(text=text):
                drawing, t = held(text)
                if due is None:
                    self.refused(drawing, ("slide", t))
                else:
                    new = drawing[:t] + told(due) + drawing[t + 2:]
                    self.check(written(drawing), ("slide", t), written(new))
                    self.assertEqual(way_back(drawing, ("slide", t)), ("slide", t))

    def test_all_pairs_of_letters(self):
        done, undone = 0, 0
        for many in (0, 2, 4, 6, 8):
            for first in letters_at(many):
                for second in letters_at(many + {B: 2, C: 0, E: -2}[first[0]]):
                    found = holding([first, second], many)
                    if found is None:
                        continue
                    drawing, t = found
                    new = slid_by_hand(*first, *second)
                    behind = None if new is None else drawing[:t] + new + drawing[t + 2:]
                    if behind is not None and is_drawing(behind):
                        self.assertEqual(moved(drawing, ("slide", t)), behind)
                        done += 1
                    else:
                        self.refused(drawing, ("slide", t))
                        undone += 1
        self.assertGreater(min(done, undone), 100)

    def test_the_first_and_the_last_two_letters(self):
        self.check(TREFOIL, ("slide", 0), "b0 b0 c1 c1 c1 e0 e0")
        self.check(TREFOIL, ("slide", 5), "b0 b2 c1 c1 c1 e2 e0")
        self.refused(told(TREFOIL), ("slide", 6))
        self.refused(told(TREFOIL), ("slide", 7))

    def test_too_many_strands_between(self):
        # Told the other way about, the birth comes where there are eight strands already.
        eight = "b0 b0 b0 b0 e0 b2 e0 e0 e0 e0"
        self.refused(told(eight), ("slide", 4))
        self.check("b0 b0 b0 e0 b2 e0 e0 e0", ("slide", 3), "b0 b0 b0 b4 e0 e0 e0 e0")


class Three(Case):
    def test_both_ways(self):
        self.check("b0 b0 c0 c1 c0 e0 e0", ("three", 2), "b0 b0 c1 c0 c1 e0 e0")
        self.check("b0 b0 c1 c0 c1 e0 e0", ("three", 2), "b0 b0 c0 c1 c0 e0 e0")
        self.check("b0 b0 c1 c2 c1 c2 e0 e0", ("three", 2), "b0 b0 c2 c1 c2 c2 e0 e0")
        self.check("b0 b0 c1 c2 c1 c2 e0 e0", ("three", 3), "b0 b0 c1 c1 c2 c1 e0 e0")
        self.assertEqual(way_back(told("b0 b0 c0 c1 c0 e0 e0"), ("three", 2)), ("three", 2))

    def test_other_letters(self):
        self.refused(told(TREFOIL), ("three", 2))
        for text in ("c0 c1 c1", "c0 c0 c1", "c1 c0 c0", "c0 c2 c0", "c0 c1 c2", "c2 c1 c0", "c1 e0 c0", "b1 c0 c1"):
            drawing, t = held(text)
            self.refused(drawing, ("three", t))
        drawing = told("b0 b0 c0 c1 c0 e0 e0")
        for t in (0, 1, 3, 4, 5, 6, 7, 8):
            self.refused(drawing, ("three", t))


class PullAndPush(Case):
    def test_the_four_pulls(self):
        self.check("b0 b1 c0 c1 e0 e0", ("pull", 1), "b0 b0 e0 e0")
        self.check("b0 b0 c1 c0 e0 e0", ("pull", 1), "b0 b1 e0 e0")
        self.check("b0 b0 c0 c1 e0 e0", ("pull", 2), "b0 b0 e1 e0")
        self.check("b0 b0 c1 c0 e1 e0", ("pull", 2), "b0 b0 e0 e0")
        for text, due in (
            ("b0 b1 c0 c1 e0 e0", ("push", 1, "below")), ("b0 b0 c1 c0 e0 e0", ("push", 1, "above")),
        ):
            self.assertEqual(way_back(told(text), ("pull", 1)), due)
        for text, due in (
            ("b0 b0 c0 c1 e0 e0", ("push", 2, "above")), ("b0 b0 c1 c0 e1 e0", ("push", 2, "below")),
        ):
            self.assertEqual(way_back(told(text), ("pull", 2)), due)

    def test_no_pull(self):
        for text in (
            "b0 c0 c1", "b0 c1 c2", "b1 c1 c0", "b1 c0 c0", "b1 c2 c0", "b0 c1 e0", "c0 c1 e1", "c1 c0 e0", "c0 c0 e0",
            "c0 c1 e2", "c1 c0 e2", "c0 c1 c0", "b2 c0 c1", "e0 c1 c0", "b0 b1 c0",
        ):
            drawing, t = held(text)
            self.refused(drawing, ("pull", t))
        drawing = told("b0 b1 c0 c1 e1 e0")
        for t in (0, 2, 3, 4, 5, 6, 7, 8):
            self.refused(drawing, ("pull", t))

    def test_pushes_of_births(self):
        self.check("b0 b1 e1 e0", ("push", 1, "above"), "b0 b0 c1 c0 e1 e0")
        self.check("b0 b1 e1 e0", ("push", 1, "below"), "b0 b2 c1 c2 e1 e0")
        self.check("b0 b2 e2 e0", ("push", 1, "above"), "b0 b1 c2 c1 e2 e0")
        self.check("b0 b0 e0 e0", ("push", 1, "below"), "b0 b1 c0 c1 e0 e0")
        self.assertEqual(way_back(told("b0 b1 e1 e0"), ("push", 1, "above")), ("pull", 1))
        # Nothing lies above, or below.
        self.refused(told("b0 b0 e0 e0"), ("push", 1, "above"))
        self.refused(told("b0 b2 e2 e0"), ("push", 1, "below"))
        for side in SIDES:
            self.refused(told(ROUND), ("push", 0, side))

    def test_pushes_of_ends(self):
        self.check("b0 b1 e1 e0", ("push", 2, "above"), "b0 b1 c0 c1 e0 e0")
        self.check("b0 b1 e1 e0", ("push", 2, "below"), "b0 b1 c2 c1 e2 e0")
        self.check("b0 b2 e2 e0", ("push", 2, "above"), "b0 b2 c1 c2 e1 e0")
        self.check("b0 b0 e0 e0", ("push", 2, "below"), "b0 b0 c1 c0 e1 e0")
        self.assertEqual(way_back(told("b0 b1 e1 e0"), ("push", 2, "below")), ("pull", 2))
        self.refused(told("b0 b0 e0 e0"), ("push", 2, "above"))
        self.refused(told("b0 b2 e2 e0"), ("push", 2, "below"))
        for side in SIDES:
            self.refused(told(ROUND), ("push", 1, side))

    def test_pushes_of_other_letters(self):
        for side in SIDES:
            for t in (2, 3, 4, 7, 8):
                self.refused(told(TREFOIL), ("push", t, side))

    def test_thirteen_crossings(self):
        for side, t, end in (("above", 1, " e2 e0"), ("below", 0, " e0 e0")):
            for many in (9, 10):
                drawing = told("b0 b2" + " c1" * many + end)
                last = len(drawing) - 2
                self.assertEqual(len(crossings_of(moved(drawing, ("push", last, side)))), many + 2)
            for many in (11, 12):
                self.refused(told("b0 b2" + " c1" * many + end), ("push", last + many - 10, side))


class CurlAndUncurl(Case):
    def test_both_sides(self):
        self.check(ROUND, ("curl", 1, 0, "above"), "b0 b0 c1 e0 e0")
        self.check(ROUND, ("curl", 1, 0, "below"), "b0 b1 c0 e1 e0")
        self.check(ROUND, ("curl", 1, 1, "above"), "b0 b1 c2 e1 e0")
        self.check(ROUND, ("curl", 1, 1, "below"), "b0 b2 c1 e2 e0")
        self.assertEqual(way_back(told(ROUND), ("curl", 1, 1, "below")), ("uncurl", 1))
        self.assertEqual(way_back(told("b0 b2 c1 e2 e0"), ("uncurl", 1)), ("curl", 1, 1, "below"))

    def test_at_each_place_of_each_strand(self):
        drawing = told(TREFOIL)
        for t, many in enumerate(strands(drawing)):
            for k in range(many):
                self.assertEqual(moved(drawing, ("curl", t, k, "above")),
                                 drawing[:t] + [(B, k), (C, k + 1), (E, k)] + drawing[t:])
                self.assertEqual(moved(drawing, ("curl", t, k, "below")),
                                 drawing[:t] + [(B, k + 1), (C, k), (E, k + 1)] + drawing[t:])
            # Numbers that are no strand's.
            for k in (many, many + 1, 9, 10 ** 59):
                for side in SIDES:
                    self.refused(drawing, ("curl", t, k, side))

    def test_the_first_and_the_last_place(self):
        # There are no strands there.
        for text in (EMPTY, ROUND, TREFOIL):
            drawing = told(text)
            for t in (0, len(drawing)):
                for side in SIDES:
                    self.refused(drawing, ("curl", t, 0, side))
        # One past all places.
        self.refused(told(ROUND), ("curl", 3, 0, "above"))
        # The last place but one, and the second one.
        self.check("b0 e0 b0 e0", ("curl", 3, 0, "above"), "b0 e0 b0 b0 c1 e0 e0")
        self.check("b0 e0 b0 e0", ("curl", 1, 1, "below"), "b0 b2 c1 e2 e0 b0 e0")

    def test_no_uncurl(self):
        for text in ("b0 c0 e0", "b0 c1 e1", "b1 c0 e0", "b0 c2 e0", "b1 c1 e1", "b0 c1 c1", "b2 c0 e2", "c0 b0 e0"):
            drawing, t = held(text)
            self.refused(drawing, ("uncurl", t))
        for t in (0, 2, 3, 4, 5, 6):
            self.refused(told(CURLED), ("uncurl", t))
        for t in (0, 1):
            self.refused(told(ROUND), ("uncurl", t))
            self.refused([], ("uncurl", t))

    def test_nine_strands_nine_births_thirteen_crossings(self):
        for side in SIDES:
            self.refused(told("b0 b0 b0 b0 e0 e0 e0 e0"), ("curl", 4, 3, side))
            self.assertEqual(max(strands(moved(told("b0 b0 b0 e0 e0 e0"), ("curl", 3, 3, side)))), 8)
            self.assertTrue(is_drawing(moved(told("b0 e0 " * 7), ("curl", 1, 0, side))))
            self.refused(told("b0 e0 " * 8), ("curl", 1, 0, side))
            full = told("b0 b2" + " c1" * 12 + " e0 e0")
            self.refused(full, ("curl", 1, 0, side))
            self.assertEqual(len(crossings_of(moved(full[:2] + full[3:], ("curl", 1, 0, side)))), 12)


class NoMoves(Case):
    def test_things_that_are_no_move(self):
        for drawing in (told(TREFOIL), told("b0 b1 c0 c1 e0 e0"), told(CURLED), [], told("b0 b0 c0 c1 c0 e0 e0")):
            for thing in NO_MOVES:
                self.refused(drawing, thing)

    def test_moves_with_one_part_put_otherwise(self):
        others = (None, True, False, -1, 10 ** 59, "", "none", [], (), [0], (0,), ["above"])
        for drawing in (told(TREFOIL), told("b0 b1 c0 c1 e0 e0"), told(CURLED), told("b0 b0 c0 c1 c0 e0 e0")):
            for move in all_moves(drawing):
                if moved_by_hand(drawing, move) is None:
                    continue
                for at in range(len(move)):
                    self.refused(drawing, move[:at] + move[at + 1:])
                    for other in others:
                        self.refused(drawing, move[:at] + (other,) + move[at + 1:])
                        self.refused(drawing, move[:at] + (other,) + move[at:])
                self.refused(drawing, list(move))

    def test_truths_for_numbers(self):
        drawing = told("b0 b2 b2 e2 e2 e0")
        for move, truth in (
            (("slide", 0), False), (("slide", 1), True), (("push", 1, "above"), True), (("curl", 1, 1, "above"), True),
        ):
            self.assertTrue(is_drawing(moved(drawing, move)))
            self.refused(drawing, (move[0], truth) + move[2:])
        self.refused(drawing, ("curl", 1, True, "above"))
        self.refused(drawing, ("curl", 1, False, "above"))


class AllMoves(Case):
    def test_against_the_words_of_the_document(self):
        seen = {}
        for drawing in some_drawings():
            for move in all_moves(drawing):
                due = moved_by_hand(drawing, move)
                if due is None:
                    self.refused(drawing, move)
                else:
                    self.assertEqual(moved(drawing, move), due)
                    seen[move[0]] = seen.get(move[0], 0) + 1
        self.assertGreater(min(seen[word] for word in ("slide", "three", "pull", "push", "curl", "uncurl")), 15)

    def test_the_way_back_leads_home(self):
        for drawing in some_drawings():
            for move in all_moves(drawing):
                behind = moved_by_hand(drawing, move)
                if behind is not None:
                    back = way_back(drawing, move)
                    self.assertIs(type(back), tuple)
                    self.assertEqual(moved(behind, back), drawing)
                    self.assertEqual(way_back(behind, back), move)
                    contrary = {"push": "pull", "pull": "push", "curl": "uncurl", "uncurl": "curl"}
                    self.assertEqual(back[0], contrary.get(move[0], move[0]))

    def test_the_moves_told(self):
        self.assertEqual(moves([]), [])
        self.assertEqual(moves(told(ROUND)), [])
        self.assertEqual(moves(told(TREFOIL)), [("slide", 0), ("slide", 5)])
        self.assertEqual(moves(told(CURLED)), [("slide", 0), ("slide", 3), ("uncurl", 1)])
        self.assertEqual(moves(told("b0 b1 c0 c1 c0 e1 e0")), [("pull", 1), ("pull", 3), ("three", 2)])

    def test_the_moves_told_are_those_that_can_be_done(self):
        for drawing in some_drawings():
            due = []
            for word in ("slide", "three", "pull", "uncurl"):
                due += [(word, t) for t in range(len(drawing)) if moved_by_hand(drawing, (word, t)) is not None]
            self.assertEqual(moves(drawing), sorted(due))


class Kept(unittest.TestCase):
    def test_kinds_of_the_answers(self):
        for drawing in some_drawings()[::4]:
            for move in moves(drawing):
                self.assertIs(type(move), tuple)
                self.assertEqual([type(part) for part in move], [str, int])
                self.assertIs(is_drawing(moved(drawing, move)), True)

    def test_answers_are_the_askers_own(self):
        for text in SAMPLES + ("b0 b1 c0 c1 c0 e1 e0",):
            drawing = told(text)
            check_own(self, moves, drawing)
            for move in all_moves(drawing):
                if moved_by_hand(drawing, move) is not None:
                    check_own(self, lambda handed: moved(handed, move), drawing, list(drawing))
                    check_own(self, lambda handed: way_back(handed, move), drawing, list(drawing))

    def test_what_is_handed_in_stays_where_it_is_refused(self):
        for thing in (["slide", 0], [["slide"], [0]], ("push", 0, ["above"])):
            drawing, kept = told(TREFOIL), repr(thing)
            for ask in (moved, way_back):
                with self.assertRaises(errors.NoMove):
                    ask(drawing, thing)
            self.assertEqual((drawing, repr(thing)), (told(TREFOIL), kept))

    def test_no_answer_takes_long(self):
        drawings = greatest_drawings(20) + banded_drawings(20, [8], [12], has_eight_strands)
        for drawing in drawings:
            begun = time.process_time()
            for move in moves(drawing):
                moved(drawing, move), way_back(drawing, move)
            self.assertLess(time.process_time() - begun, 2)


if __name__ == "__main__":
    unittest.main()
