import copy
import time
import unittest

from bendfronts import errors
from bendfronts.bands import bandings, is_banding
from bendfronts.drawings import names_of, strands
from bendfronts.heights import name_heights
from bendfronts.papers import look, paper
from bendfronts.settings import is_setting, settings
from bendfronts.threads import turns
from byhand import all_partners, partners_behind
from samples import (
    CURLED, EMPTY, EVEN_LINK, ODD_LINK, ROUND, SAMPLES, THREE_BIRTHS, TREFOIL, ZIGZAG,
    banded_drawings, check_own, greatest_drawings, has_eight_strands, scales_of, short_drawings, told,
)

# Drawings that do not have the scale 0.
FLAT = (EMPTY, ZIGZAG, ODD_LINK, EVEN_LINK, THREE_BIRTHS)

# Drawings without a banding by the scale 1.
BARE = (ZIGZAG, "b0 c0 e0", "b0 c0 c0 e0", THREE_BIRTHS, "b0 b2 c1 e0 e0 b0 b1 e0 e0", "b0 b2 c1 c0 e0 e0")

ZIGZAG_STANDS = [[[]], [[1, 0]], [[3, 2, 1, 0]], [], []]

# Any things, none of them a setting, a banding or stands of any drawing but the empty one.
THINGS = (
    None, True, False, 0, 1, "", "set", "0,0", [None], [True], [[]], [()], [[[]]], [[], []], (), ((),), [2], ["2"],
    [[[]], [[1, 0]]], [[0]], ([],), ([[]],), [[["none"]]],
)


def scored(drawing, scale):
    """A drawing's letters with their heights."""
    heights = dict(zip(names_of(drawing), name_heights(drawing, scale)))
    return [(letter, heights.get(t)) for t, letter in enumerate(drawing)]


def least_stands(drawing, scale):
    """The lists of partners that come, at each place."""
    stands = [[[]]]
    for letter, height in scored(drawing, scale):
        behind = [then for one in stands[-1] for then in partners_behind(one, letter, height)]
        stands.append(sorted([one for at, one in enumerate(behind) if one not in behind[:at]]))
    return stands


def most_stands(drawing, scale):
    """At each place all lists of partners from which nothing comes at the last place."""
    stands = [[]]
    for t, (letter, height) in reversed(list(enumerate(scored(drawing, scale)))):
        due = stands[0]
        here = [one for one in all_partners(strands(drawing)[t])
                if all(then in due for then in partners_behind(one, letter, height))]
        stands.insert(0, here)
    return stands


def bare_drawings():
    """Drawings without a banding, each with a scale."""
    drawings = [told(text) for text in BARE] + list(short_drawings(6))[::3] + greatest_drawings(12)
    for drawing in drawings:
        for scale in scales_of(drawing):
            if not bandings(drawing, scale):
                yield drawing, scale


class Case(unittest.TestCase):
    def let_by(self, drawing, scale, thing):
        self.assertIsNone(look(drawing, scale, thing))

    def refused(self, drawing, scale, thing, where):
        with self.assertRaises(errors.FrontError) as caught:
            look(drawing, scale, thing)
        self.assertIs(type(caught.exception), errors.NoPaper, thing)
        self.assertEqual(caught.exception.where, where, thing)
        self.assertIs(type(caught.exception.where), str)


class NoPapers(Case):
    def test_what_is_no_tuple_of_two_things(self):
        good = [0, 0, 1, 0, 0]
        for scale in (0, 1):
            for thing in THINGS + (
                ["set", good], ("set",), ("set", good, good), (good, "set"), (("set", good),), [("set", good)], "set",
                ("set", good, None), ("band",), ("band", [2], [2]), ["band", [2]], ("none",), ("none", [], []), ["none", []],
                good, [2], (0, 1), ("set" + "band", good),
            ):
                self.refused(told(TREFOIL), scale, thing, "paper")

    def test_texts_that_are_none_of_the_three(self):
        good = [0, 0, 1, 0, 0]
        for scale in (0, 1):
            for first in ("", "Set", "SET", "sets", " set", "set ", "bands", "no", "None", None, True, 0, ["set"], ("set",),
                          [], ()):
                self.refused(told(TREFOIL), scale, (first, good), "paper")
                self.refused(told(TREFOIL), scale, (first, [2]), "paper")

    def test_no_heights_ahead(self):
        for text in FLAT:
            drawing = told(text)
            for thing in THINGS[:12] + (
                ("set", None), ("band", None), ("none", None), ("none", least_stands(drawing, 1)), ("set", []), ("band", []),
                ("other", []), paper(drawing, 1),
            ):
                with self.assertRaises(errors.FrontError) as caught:
                    look(drawing, 0, thing)
                self.assertIs(type(caught.exception), errors.NoHeights)
            with self.assertRaises(errors.NoHeights):
                paper(drawing, 0)


class SetAndBand(Case):
    def test_settings(self):
        for text in (EMPTY, ROUND, TREFOIL, CURLED, ODD_LINK):
            for scale in scales_of(told(text)):
                for setting in settings(told(text), scale):
                    self.let_by(told(text), scale, ("set", setting))

    def test_bandings(self):
        for text in (EMPTY, ROUND, TREFOIL, CURLED, ODD_LINK):
            for scale in scales_of(told(text)):
                for banding in bandings(told(text), scale):
                    self.let_by(told(text), scale, ("band", banding))

    def test_what_is_no_setting(self):
        for scale in (0, 1):
            for thing in THINGS[:-1] + (
                [], [0, 0, 0, 0, 0], [0, 0, 1, 0], [0, 0, 1, 0, 0, 0], [0, 0, True, 0, 0], (0, 0, 1, 0, 0), [0, 0, 2, 0, 0],
                [0, 0, [1], 0, 0], [2, 3, 4], ("set", [0, 0, 1, 0, 0]), [0] * 5000,
            ):
                self.refused(told(TREFOIL), scale, ("set", thing), "set")
        self.refused(told(ROUND), 0, ("set", [1]), "set")
        self.let_by(told(ROUND), 1, ("set", [1]))

    def test_what_is_no_banding(self):
        for scale in (0, 1):
            for thing in THINGS[:16] + (
                [], [3], [2, 3], [4, 2], [2, 2], (2,), [True], [[2]], [2, 3, 4, 5], [0, 0, 1, 0, 0], ("band", [2]),
                list(range(5000)),
            ):
                self.refused(told(TREFOIL), scale, ("band", thing), "band")
        more = told("b0 b2 c1 c1 c1 c2 c2 e1 e0")
        self.refused(more, 0, ("band", [2, 3, 6]), "band")
        self.let_by(more, 1, ("band", [2, 3, 6]))


class Stands(Case):
    def test_ordinary_papers(self):
        self.let_by(told(ZIGZAG), 1, ("none", ZIGZAG_STANDS))
        self.let_by(told("b0 c0 e0"), 1, ("none", [[[]], [[1, 0]], [], []]))
        self.let_by(told("b0 c0 c0 e0"), 0, ("none", [[[]], [[1, 0]], [], [], []]))
        self.let_by(told(THREE_BIRTHS), 1, ("none", least_stands(told(THREE_BIRTHS), 1)))

    def test_of_a_drawing_with_a_banding_there_is_none(self):
        self.refused([], 1, ("none", []), "none")
        self.refused([], 1, ("none", [[[]]]), "none")
        self.refused([], 1, ("none", [[]]), "none")
        self.refused(told(ROUND), 0, ("none", [[[]], [[1, 0]], [[]]]), "none")
        self.refused(told(ROUND), 0, ("none", [[[]], [[1, 0]], []]), "none")
        self.refused(told(ROUND), 0, ("none", [[[]], [], []]), "none")
        for text in (TREFOIL, CURLED, ODD_LINK):
            stands = least_stands(told(text), 1)
            self.refused(told(text), 1, ("none", stands), "none")
            self.refused(told(text), 1, ("none", stands[:-1] + [[]]), "none")

    def test_more_lists_than_need_be(self):
        more = copy.deepcopy(ZIGZAG_STANDS)
        more[2] = [[2, 3, 0, 1], [3, 2, 1, 0]]
        self.let_by(told(ZIGZAG), 1, ("none", more))
        # One that leads on to where it isn't told, though that one leads to the last place.
        more[2] = [[1, 0, 3, 2], [3, 2, 1, 0]]
        self.refused(told(ZIGZAG), 1, ("none", more), "none")
        more[3] = [[1, 0]]
        self.refused(told(ZIGZAG), 1, ("none", more), "none")
        more[4] = [[]]
        self.refused(told(ZIGZAG), 1, ("none", more), "none")

    def test_the_greatest_papers(self):
        seen, wide = 0, 0
        for drawing, scale in bare_drawings():
            stands = most_stands(drawing, scale)
            self.let_by(drawing, scale, ("none", stands))
            wide = max(wide, max(len(one) for one in stands))
            # Any other list leads to the last place.
            for t in range(1, len(drawing)):
                for other in all_partners(strands(drawing)[t])[::7]:
                    if other not in stands[t]:
                        new = stands[:t] + [sorted(stands[t] + [other])] + stands[t + 1:]
                        self.refused(drawing, scale, ("none", new), "none")
                        seen += 1
        self.assertGreater(seen, 50)
        self.assertGreater(wide, 90)

    def test_a_list_too_few(self):
        seen = 0
        for drawing, scale in bare_drawings():
            stands = least_stands(drawing, scale)
            self.let_by(drawing, scale, ("none", stands))
            for t in range(len(stands)):
                for at in range(len(stands[t])):
                    new = stands[:t] + [stands[t][:at] + stands[t][at + 1:]] + stands[t + 1:]
                    self.refused(drawing, scale, ("none", new), "none")
                    seen += 1
        self.assertGreater(seen, 200)

    def test_lists_twice_and_not_sorted(self):
        seen = 0
        for drawing, scale in bare_drawings():
            stands = most_stands(drawing, scale)
            for t in range(len(stands)):
                if stands[t]:
                    new = stands[:t] + [sorted(stands[t] + stands[t][-1:])] + stands[t + 1:]
                    self.refused(drawing, scale, ("none", new), "none")
                if len(stands[t]) > 1:
                    new = stands[:t] + [stands[t][::-1]] + stands[t + 1:]
                    self.refused(drawing, scale, ("none", new), "none")
                    new = stands[:t] + [[stands[t][1], stands[t][0]] + stands[t][2:]] + stands[t + 1:]
                    self.refused(drawing, scale, ("none", new), "none")
                    seen += 1
        self.assertGreater(seen, 20)

    def test_partners_that_are_none(self):
        for bad in (
            [0, 1, 2, 3], [0, 1, 3, 2], [3, 2, 1, 3], [3, 2, 0, 1], [1, 2, 3, 0], [1, 2, 0, 3], [3, 2, 1, 4], [3, 2, 1, -4],
            [-1, 2, 1, 0], [4, 2, 1, 0], [3, 2, 1], [3, 2, 1, 0, 5], [5, 4, 3, 2, 1, 0], [1, 0], [], [3, 2, True, 0],
            [3, 2, 1, False], [3, 2, True, False], [3, 2, 1, None], [3, 2, 1, "0"], [3, 2, 1, [0]], [3, 2, 1, (0,)],
            (3, 2, 1, 0), None, True, 0, "3210", "", (), [[3, 2, 1, 0]], [10 ** 59, 2, 1, 0], [3, 2, 1, -(10 ** 59)],
        ):
            # In place of the one that is due, and beside it.
            for stand in ([bad], [bad, [3, 2, 1, 0]], [[3, 2, 1, 0], bad]):
                new = ZIGZAG_STANDS[:2] + [stand] + ZIGZAG_STANDS[3:]
                self.refused(told(ZIGZAG), 1, ("none", new), "none")
        # A truth is no number, though it comes to one.
        self.refused(told("b0 c0 e0"), 1, ("none", [[[]], [[True, False]], [], []]), "none")

    def test_tuples_in_place_of_lists(self):
        stands = ZIGZAG_STANDS
        self.refused(told(ZIGZAG), 1, ("none", tuple(stands)), "none")
        for t in range(len(stands)):
            self.refused(told(ZIGZAG), 1, ("none", stands[:t] + [tuple(stands[t])] + stands[t + 1:]), "none")
            for at in range(len(stands[t])):
                stand = stands[t][:at] + [tuple(stands[t][at])] + stands[t][at + 1:]
                self.refused(told(ZIGZAG), 1, ("none", stands[:t] + [stand] + stands[t + 1:]), "none")

    def test_the_first_and_the_last_place(self):
        for first in ([], [[], []], [[[]]], [[0]], [[1, 0]], [()], [None], None, "", (), ([],), True):
            self.refused(told(ZIGZAG), 1, ("none", [first] + ZIGZAG_STANDS[1:]), "none")
        for last in ([[]], [[], []], [[1, 0]], [None], None, "", (), True, 0, [[[]]]):
            self.refused(told(ZIGZAG), 1, ("none", ZIGZAG_STANDS[:-1] + [last]), "none")

    def test_a_place_too_many_or_too_few(self):
        for t in range(len(ZIGZAG_STANDS)):
            self.refused(told(ZIGZAG), 1, ("none", ZIGZAG_STANDS[:t] + ZIGZAG_STANDS[t + 1:]), "none")
            for more in ([], [[]], [[1, 0]], ZIGZAG_STANDS[t]):
                self.refused(told(ZIGZAG), 1, ("none", ZIGZAG_STANDS[:t] + [more] + ZIGZAG_STANDS[t:]), "none")
        for more in ([], [[]], None):
            self.refused(told(ZIGZAG), 1, ("none", ZIGZAG_STANDS + [more]), "none")
        self.refused(told(ZIGZAG), 1, ("none", []), "none")

    def test_any_things(self):
        for thing in THINGS + (ZIGZAG_STANDS[0], ("none", ZIGZAG_STANDS), [ZIGZAG_STANDS], [[]] * 5, [None] * 5, [0] * 5):
            self.refused(told(ZIGZAG), 1, ("none", thing), "none")
        for at in range(5):
            for thing in (None, True, 0, 5, "", "none", ()):
                self.refused(told(ZIGZAG), 1, ("none", ZIGZAG_STANDS[:at] + [thing] + ZIGZAG_STANDS[at + 1:]), "none")

    def test_two_faults_in_one(self):
        drawing = told(ZIGZAG)
        self.refused(drawing, 1, ["none", None], "paper")
        self.refused(drawing, 1, ("nothing", None), "paper")
        self.refused(drawing, 1, ("none", None, None), "paper")
        self.refused(drawing, 1, ("none", [[[1, 1]], None, (), [[]]]), "none")
        self.refused(drawing, 1, ("set", ZIGZAG_STANDS), "set")
        self.refused(drawing, 1, ("band", ZIGZAG_STANDS), "band")
        self.refused(drawing, 1, ("none", [0, 0]), "none")

    def test_changed_only_where_the_height_is_0(self):
        differing = 0
        for drawing in list(short_drawings(7))[::2] + banded_drawings(30, range(2, 5), range(3, 7)):
            if turns(drawing) == [0] and not bandings(drawing, 1):
                flat, high = least_stands(drawing, 1), least_stands(drawing, 0)
                self.let_by(drawing, 1, ("none", flat))
                self.let_by(drawing, 0, ("none", high))
                # What comes by the scale 0 comes by the scale 1, too.
                self.let_by(drawing, 0, ("none", flat))
                if flat != high:
                    self.refused(drawing, 1, ("none", high), "none")
                    differing += 1
        self.assertGreater(differing, 0)

    def test_great_papers_that_are_none(self):
        drawing = told(ZIGZAG)
        self.refused(drawing, 1, ("none", [[[]]] * 20000), "none")
        self.refused(drawing, 1, ("none", ZIGZAG_STANDS[:2] + [[[3, 2, 1, 0]] * 20000] + ZIGZAG_STANDS[3:]), "none")
        self.refused(drawing, 1, ("none", ZIGZAG_STANDS[:2] + [[list(range(20000))]] + ZIGZAG_STANDS[3:]), "none")
        self.refused(drawing, 1, ("x" * 2000, ZIGZAG_STANDS), "paper")


class Paper(Case):
    def test_ordinary_drawings(self):
        self.assertIn(paper([], 1), (("set", []), ("band", [])))
        self.assertIn(paper(told(ROUND), 0), (("set", [0]), ("band", [])))
        self.assertEqual(paper(told(ZIGZAG), 1)[0], "none")
        self.assertEqual(paper(told("b0 c0 c0 e0"), 0)[0], "none")

    def test_each_one_is_let_by(self):
        kinds = {}
        drawings = [told(text) for text in SAMPLES + BARE] + list(short_drawings(6)) + greatest_drawings(20)
        drawings += banded_drawings(30, range(2, 9), range(2, 13)) + banded_drawings(5, [8], [12], has_eight_strands)
        for drawing in drawings:
            for scale in scales_of(drawing):
                found = paper(drawing, scale)
                self.let_by(drawing, scale, found)
                self.assertEqual((type(found), len(found)), (tuple, 2))
                if bandings(drawing, scale):
                    self.assertIn(found[0], ("set", "band"))
                    good = is_setting if found[0] == "set" else is_banding
                    self.assertTrue(good(drawing, scale, found[1]))
                else:
                    self.assertEqual(found[0], "none")
                kinds[found[0]] = kinds.get(found[0], 0) + 1
        self.assertGreater(kinds["none"], 100)
        self.assertGreater(sum(kinds.values()) - kinds["none"], 50)

    def test_it_is_the_askers_own(self):
        for text in SAMPLES + BARE:
            for scale in scales_of(told(text)):
                drawing = told(text)
                first, second = paper(drawing, scale), paper(drawing, scale)
                self.let_by(drawing, scale, second)
                check_own(self, lambda handed: paper(handed, scale), drawing)
                first[1].append("mine")
                self.let_by(drawing, scale, second)
                self.let_by(drawing, scale, paper(drawing, scale))

    def test_what_is_looked_at_stays(self):
        for text in SAMPLES + BARE:
            drawing = told(text)
            for thing in (paper(drawing, 1), ("none", [[[]], [[1, 0], [0, 1]]]), ["set", [1]], ("set", [[2], []])):
                kept = copy.deepcopy(thing)
                try:
                    look(drawing, 1, thing)
                except errors.NoPaper:
                    pass
                self.assertEqual((thing, drawing), (kept, told(text)))

    def test_papers_of_other_drawings(self):
        for one in (TREFOIL, ZIGZAG, "b0 c0 e0", ROUND):
            for other in (TREFOIL, ZIGZAG, "b0 c0 e0", ROUND):
                found = paper(told(other), 1)
                if one == other:
                    self.let_by(told(one), 1, found)
                else:
                    self.refused(told(one), 1, found, found[0])

    def test_no_answer_takes_long(self):
        drawings = greatest_drawings(20) + banded_drawings(20, range(4, 9), [12], has_eight_strands)
        for drawing in drawings:
            for scale in scales_of(drawing):
                begun = time.process_time()
                look(drawing, scale, paper(drawing, scale))
                self.assertLess(time.process_time() - begun, 2)


if __name__ == "__main__":
    unittest.main()
