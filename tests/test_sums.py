import itertools
import random
import time
import unittest

from bendfronts.sums import added, is_sum, multiplied
from samples import check_own

ONE = [()]
X = [(3,)]
Y = [(5,)]
SUMS = ([], ONE, X, Y, [(), (3,)], [(3,), (5,)], [(3,), (3, 3)], [(3, 5), (5, 3)], [(), (0, 0), (1,)])


def sum_of(words):
    """The words that come an odd number of times, sorted, counted one by one."""
    return [word for word in sorted(set(words)) if words.count(word) % 2]


def random_sum(chance, many, longest, names):
    """A sum of so many words, each of at most so many names below a bound."""
    words = set()
    while len(words) < many:
        words.add(tuple(chance.randrange(names) for name in range(chance.randint(0, longest))))
    return sorted(words)


class IsSum(unittest.TestCase):
    def yes(self, thing):
        self.assertIs(is_sum(thing), True, thing)

    def no(self, thing):
        self.assertIs(is_sum(thing), False, thing)

    def test_ordinary_sums(self):
        for one in SUMS:
            self.yes(one)
        self.yes([(0,), (10 ** 59,), (10 ** 59, 0)])

    def test_nought_and_the_word_without_names(self):
        self.yes([])
        self.yes([()])
        self.yes([(), (0,)])
        self.no([(0,), ()])

    def test_words_rise_as_tuples_go(self):
        self.yes([(1,), (1, 0), (1, 0, 0), (1, 2), (2,), (10,)])
        self.no([(2,), (1, 5)])
        self.no([(1, 0), (1,)])
        self.no([(5,), (3,)])
        self.no([(0,), (2,), (1,), (3,)])
        self.yes([(9,), (10,)])
        self.no([(10,), (9,)])

    def test_each_word_once(self):
        self.no([(), ()])
        self.no([(3,), (3,)])
        self.no([(1,), (3,), (3,), (5,)])

    def test_names_are_whole_numbers_from_0_on(self):
        for name in (-1, -(10 ** 59), True, False, None, "3", "", (3,), (), [3], []):
            self.no([(name,)])
            self.no([(0, name)])
            self.no([(), (name, 7)])

    def test_words_are_tuples(self):
        for word in ([], [3], 3, -1, True, False, None, "", "3"):
            self.no([word])
            self.no([(), word])
            self.no([word, (3,)])

    def test_things_that_are_no_list(self):
        for thing in (None, True, False, 0, 1, -1, 10 ** 59, "", "0", "1", "x3", (), ((),), ((3,),), (3,)):
            self.no(thing)

    def test_lists_within_lists(self):
        for thing in ([[]], [[()]], [[(3,)]], [[[[[[]]]]]], [((),)], [(((3,),),)], [[], ()]):
            self.no(thing)

    def test_of_any_size(self):
        self.yes([(name,) for name in range(299)])
        self.yes([tuple(range(290))])
        self.no([(name,) for name in range(298)] + [(0,)])
        self.yes(multiplied([(name,) for name in range(40)], [(name,) for name in range(40)]))

    def test_what_is_handed_in_stays(self):
        for thing in ([(), (3,)], [(5,), (3,)], [[3], []], [(3, [4])]):
            kept = repr(thing)
            is_sum(thing)
            self.assertEqual(repr(thing), kept)


class Added(unittest.TestCase):
    def test_ordinary_sums(self):
        self.assertEqual(added(X, Y), [(3,), (5,)])
        self.assertEqual(added(Y, X), [(3,), (5,)])
        self.assertEqual(added([(), (3,)], [(3,), (5,)]), [(), (5,)])
        self.assertEqual(added([(3,), (3, 3)], [(), (3, 2), (4,)]), [(), (3,), (3, 2), (3, 3), (4,)])

    def test_with_itself_and_with_nought(self):
        for one in SUMS:
            self.assertEqual(added(one, one), [])
            self.assertEqual(added(one, list(one)), [])
            self.assertEqual(added(one, []), one)
            self.assertEqual(added([], one), one)

    def test_all_pairs(self):
        for one, other in itertools.product(SUMS, repeat=2):
            self.assertEqual(added(one, other), sum_of(one + other))

    def test_random_sums(self):
        chance = random.Random(1)
        for turn in range(100):
            one, other = [random_sum(chance, chance.randint(0, 12), 3, 2) for side in range(2)]
            self.assertEqual(added(one, other), sum_of(one + other))
            self.assertTrue(is_sum(added(one, other)))


class Multiplied(unittest.TestCase):
    def test_in_both_orders(self):
        self.assertEqual(multiplied(X, Y), [(3, 5)])
        self.assertEqual(multiplied(Y, X), [(5, 3)])
        self.assertEqual(multiplied([(3, 4), (5,)], [(6,), (7, 8)]), [(3, 4, 6), (3, 4, 7, 8), (5, 6), (5, 7, 8)])
        self.assertEqual(multiplied([(6,), (7, 8)], [(3, 4), (5,)]), [(6, 3, 4), (6, 5), (7, 8, 3, 4), (7, 8, 5)])

    def test_with_nought_and_with_the_word_without_names(self):
        for one in SUMS:
            self.assertEqual(multiplied(one, []), [])
            self.assertEqual(multiplied([], one), [])
            self.assertEqual(multiplied(one, ONE), one)
            self.assertEqual(multiplied(ONE, one), one)

    def test_even_numbers_fall_away(self):
        self.assertEqual(multiplied([(), (3,)], [(), (3,)]), [(), (3, 3)])
        self.assertEqual(multiplied([(), (3,)], [(3,), (3, 3)]), [(3,), (3, 3, 3)])
        self.assertEqual(multiplied([(1,), (1, 2)], [(2, 3), (3,)]), [(1, 2, 2, 3), (1, 3)])

    def test_odd_numbers_stay(self):
        # The word (3, 3) comes three times.
        self.assertEqual(multiplied([(), (3,), (3, 3)], [(), (3,), (3, 3)]), [(), (3, 3), (3, 3, 3, 3)])

    def test_all_pairs(self):
        for one, other in itertools.product(SUMS, repeat=2):
            self.assertEqual(multiplied(one, other), sum_of([word + behind for word in one for behind in other]))

    def test_random_sums(self):
        chance = random.Random(2)
        for turn in range(100):
            one, other = [random_sum(chance, chance.randint(0, 12), 3, 2) for side in range(2)]
            product = multiplied(one, other)
            self.assertEqual(product, sum_of([word + behind for word in one for behind in other]))
            self.assertTrue(is_sum(product))

    def test_a_product_of_three_and_a_product_of_sums(self):
        for one, other, third in itertools.product(SUMS, repeat=3):
            self.assertEqual(multiplied(multiplied(one, other), third), multiplied(one, multiplied(other, third)))
            self.assertEqual(multiplied(one, added(other, third)),
                             added(multiplied(one, other), multiplied(one, third)))

    def test_forty_words_of_eight_names(self):
        chance = random.Random(3)
        one = sorted({tuple(chance.randrange(20) for name in range(8)) for word in range(40)})
        other = sorted({tuple(chance.randrange(20) for name in range(8)) for word in range(40)})
        self.assertEqual((len(one), len(other)), (40, 40))
        begun = time.process_time()
        product = multiplied(one, other)
        self.assertLess(time.process_time() - begun, 5)
        # Words of one length are told apart by their halves, so that none falls away.
        self.assertEqual(product, sorted(word + behind for word in one for behind in other))
        self.assertEqual(added(product, product), [])

    def test_what_was_told_may_be_handed_in_again(self):
        one = [(name,) for name in range(40)]
        product = multiplied(one, one)
        self.assertEqual(len(product), 1600)
        self.assertEqual(len(multiplied(product, one)), 64000)
        self.assertEqual(added(product, one), sorted(product + one))


class Kept(unittest.TestCase):
    def test_kinds_of_the_answers(self):
        for ask in (added, multiplied):
            answer = ask([(), (3,)], [(5,), (5, 6)])
            self.assertIs(type(answer), list)
            self.assertEqual({type(word) for word in answer}, {tuple})
            self.assertEqual({type(name) for word in answer for name in word}, {int})

    def test_answers_are_the_askers_own(self):
        for ask in (added, multiplied):
            for one, other in itertools.product(SUMS, repeat=2):
                with self.subTest(ask=ask.__name__, one=one, other=other):
                    fixed = list(other)
                    check_own(self, lambda handed: ask(handed, fixed), one, X)
                    self.assertEqual(fixed, other)
                    fixed = list(one)
                    check_own(self, lambda handed: ask(fixed, handed), other, X)
                    self.assertEqual(fixed, one)

    def test_one_list_handed_in_twice(self):
        handed = [(), (3,)]
        self.assertEqual(added(handed, handed), [])
        self.assertEqual(multiplied(handed, handed), [(), (3, 3)])
        self.assertEqual(handed, [(), (3,)])

    def test_the_answer_is_neither_of_those_handed_in(self):
        handed = [(), (3,)]
        for answer in (added(handed, []), added([], handed), multiplied(handed, ONE), multiplied(ONE, handed)):
            answer.append("mine")
        self.assertEqual(handed, [(), (3,)])
        self.assertEqual(ONE, [()])


if __name__ == "__main__":
    unittest.main()
