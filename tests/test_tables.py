import itertools
import random
import time
import unittest

from bendfronts import errors
from bendfronts.settings import settings, tables_of
from bendfronts.tables import is_table, slide, table_partners
from samples import TREFOIL, banded_drawings, check_own, told

ONE_PAIR = [[0, 1], [0, 0]]
APART = [[0, 1, 0, 0], [0, 0, 0, 0], [0, 0, 0, 1], [0, 0, 0, 0]]
WITHIN = [[0, 0, 0, 1], [0, 0, 1, 0], [0, 0, 0, 0], [0, 0, 0, 0]]
TANGLED = [[0, 0, 1, 0], [0, 0, 0, 1], [0, 0, 0, 0], [0, 0, 0, 0]]
# Square by two products that fall away: 0 goes to 1 and 2, both of which go to 3.
FALLING = [[0, 1, 1, 0], [0, 0, 0, 1], [0, 0, 0, 1], [0, 0, 0, 0]]


def product(one, other):
    """The product of two tables, by what two leaves."""
    return [[sum(a * b for a, b in zip(row, column)) % 2 for column in zip(*other)] for row in one]


def rank(rows):
    """The rank of rows: as many as two is taken times itself for the number of all their sums."""
    sums = {tuple(0 for bit in rows[0])} if rows else {()}
    for row in rows:
        sums |= {tuple(a ^ b for a, b in zip(row, one)) for one in sums}
    return len(sums).bit_length() - 1


def is_table_by_hand(table):
    """Whether a table of 0 and 1 is high, square and full."""
    many = len(table)
    high = all(table[i][j] == 0 for i in range(many) for j in range(i + 1))
    square = many == 0 or product(table, table) == [[0] * many] * many
    return high and square and 2 * rank(table) == many


def all_tables(many):
    for bits in itertools.product((0, 1), repeat=many * many):
        yield [list(bits[at * many:(at + 1) * many]) for at in range(many)]


def high_tables(many):
    places = list(itertools.combinations(range(many), 2))
    for bits in itertools.product((0, 1), repeat=len(places)):
        table = [[0] * many for row in range(many)]
        for (i, j), bit in zip(places, bits):
            table[i][j] = bit
        yield table


def pair_table(partners):
    return [[int(j == partner and i < j) for j in range(len(partners))] for i, partner in enumerate(partners)]


def random_pairs(chance, many):
    """The partners of some pairs of so many numbers."""
    numbers, partners = list(range(many)), [0] * many
    chance.shuffle(numbers)
    for one, other in zip(numbers[::2], numbers[1::2]):
        partners[one], partners[other] = other, one
    return partners


def slid_table(chance, partners):
    """A table that some slide leads to the table of the pairs."""
    table, many = pair_table(partners), len(partners)
    for turn in range(3 * many):
        i, j = chance.randrange(many), chance.randrange(many)
        if i < j:
            # Row j is put to row i, and column i to column j.
            table[i] = [a ^ b for a, b in zip(table[i], table[j])]
            for row in table:
                row[j] ^= row[i]
    return table


class IsTable(unittest.TestCase):
    def yes(self, thing):
        self.assertIs(is_table(thing), True, thing)

    def no(self, thing):
        self.assertIs(is_table(thing), False, thing)

    def test_ordinary_tables(self):
        for table in ([], ONE_PAIR, APART, WITHIN, TANGLED):
            self.yes(table)
        self.yes([[0, 1, 1, 0], [0, 0, 0, 1], [0, 0, 0, 1], [0, 0, 0, 0]])
        self.yes([[0, 1, 0, 1], [0, 0, 0, 0], [0, 0, 0, 1], [0, 0, 0, 0]])

    def test_not_high(self):
        self.no([[0, 0], [1, 0]])
        self.no([[1, 1], [1, 1]])
        self.no([[1]])
        self.no([[0, 1, 0, 0], [0, 0, 0, 0], [0, 0, 0, 0], [0, 0, 1, 0]])

    def test_not_square(self):
        self.no([[0, 1, 0, 0], [0, 0, 1, 0], [0, 0, 0, 0], [0, 0, 0, 0]])
        self.no([[0, 1, 0, 0], [0, 0, 0, 1], [0, 0, 0, 1], [0, 0, 0, 0]])

    def test_not_full(self):
        self.no([[0]])
        self.no([[0, 0], [0, 0]])
        self.no([[0, 1, 0], [0, 0, 0], [0, 0, 0]])
        self.no([[0, 1, 0, 0], [0, 0, 0, 0], [0, 0, 0, 0], [0, 0, 0, 0]])
        self.no([[0, 0, 1, 1], [0, 0, 1, 1], [0, 0, 0, 0], [0, 0, 0, 0]])

    def test_all_tables_of_three_rows_or_fewer(self):
        for many in range(4):
            for table in all_tables(many):
                if is_table(table) is not is_table_by_hand(table):
                    self.fail(table)

    def test_all_high_tables_of_four_and_five_rows(self):
        for many in (4, 5):
            for table in high_tables(many):
                if is_table(table) is not is_table_by_hand(table):
                    self.fail(table)

    def test_one_place_put_otherwise(self):
        chance = random.Random(1)
        for many in (2, 4, 6, 8):
            for turn in range(4):
                table = slid_table(chance, random_pairs(chance, many))
                self.yes(table)
                for i, j in itertools.product(range(many), repeat=2):
                    table[i][j] ^= 1
                    self.assertIs(is_table(table), is_table_by_hand(table), table)
                    table[i][j] ^= 1

    def test_at_most_eight_rows(self):
        for many in range(0, 14, 2):
            table = pair_table([at ^ 1 for at in range(many)])
            self.assertIs(is_table(table), many <= 8)

    def test_unlike_lengths(self):
        for thing in (
            [[]], [[], []], [[0]] * 2, [[0, 1]], [[0, 1], [0]], [[0, 1], [0, 0, 0]], [[0, 1], [0, 0], [0, 0]],
            [[0, 1, 0], [0, 0, 0]], [[0, 1], []], [[0, 1, 0, 0], [0, 0, 0, 0], [0, 0, 0, 1]],
        ):
            self.no(thing)

    def test_other_numbers(self):
        for bit in (2, -1, 3, 10 ** 59, True, False, None, "1", "0", "", [1], (1,), [], ()):
            self.no([[0, bit], [0, 0]])
            self.no([[bit, 1], [0, 0]])
            self.no([[0, 1], [bit, 0]])
            self.no([[0, 1], [0, bit]])

    def test_things_that_are_no_list_of_lists(self):
        for thing in (
            None, True, False, 0, 1, 10 ** 59, "", "[]", (), ((0, 1), (0, 0)), [(0, 1), (0, 0)], ([0, 1], [0, 0]),
            [0, 1], [None], [None, None], [""], ["01", "00"], [()], [[0, 1], None], [[0, 1], (0, 0)], [[0, 1], "00"],
            [[[0, 1], [0, 0]]],
        ):
            self.no(thing)

    def test_what_is_handed_in_stays(self):
        for thing in (FALLING, [[0, 0], [1, 0]], [[0, [1]], [0, 0]], [[0, 1], (0, 0)]):
            kept = repr(thing)
            is_table(thing)
            self.assertEqual(repr(thing), kept)


class Pairs(unittest.TestCase):
    def check_partners(self, table):
        """That the partners are those that the ranks of the parts tell."""
        partners = table_partners(table)
        many = len(table)
        self.assertEqual([partners[partner] for partner in partners], list(range(many)))
        for i, j in itertools.combinations(range(many), 2):
            within = [at for at in range(i, j + 1) if i <= partners[at] <= j]
            if len(within) != 2 * rank([row[:j + 1] for row in table[i:]]):
                self.fail((table, partners))
        return partners

    def check_slide(self, table):
        """That the slide is one and leads the table to the table of the pairs."""
        found, many = slide(table), len(table)
        self.assertEqual([len(row) for row in found], [many] * many)
        self.assertLessEqual({type(bit) for row in found for bit in row}, {int})
        for i, j in itertools.product(range(many), repeat=2):
            self.assertIn(found[i][j], (0, 1) if i < j else (int(i == j),))
        self.assertEqual(product(found, table), product(pair_table(table_partners(table)), found))

    def test_the_table_without_rows(self):
        self.assertEqual(table_partners([]), [])
        self.assertEqual(slide([]), [])

    def test_tables_of_pairs(self):
        self.assertEqual(table_partners(ONE_PAIR), [1, 0])
        self.assertEqual(table_partners(APART), [1, 0, 3, 2])
        self.assertEqual(table_partners(WITHIN), [3, 2, 1, 0])
        self.assertEqual(table_partners(TANGLED), [2, 3, 0, 1])
        for table in (ONE_PAIR, APART, WITHIN, TANGLED):
            self.check_slide(table)

    def test_other_tables(self):
        self.assertEqual(table_partners(FALLING), [1, 0, 3, 2])
        self.assertEqual(table_partners([[0, 0, 1, 1], [0, 0, 1, 0], [0, 0, 0, 0], [0, 0, 0, 0]]), [3, 2, 1, 0])
        self.assertEqual(table_partners([[0, 0, 1, 1], [0, 0, 0, 1], [0, 0, 0, 0], [0, 0, 0, 0]]), [2, 3, 0, 1])
        self.assertEqual(table_partners([[0, 1, 0, 1], [0, 0, 0, 0], [0, 0, 0, 1], [0, 0, 0, 0]]), [1, 0, 3, 2])

    def test_all_tables_of_four_rows_or_fewer(self):
        many = 0
        for rows in (2, 4):
            for table in high_tables(rows):
                if is_table(table):
                    self.check_partners(table)
                    self.check_slide(table)
                    many += 1
        self.assertGreater(many, 10)

    def test_tables_of_six_and_eight_rows(self):
        chance = random.Random(2)
        for rows in (6, 8):
            for turn in range(60):
                due = random_pairs(chance, rows)
                table = slid_table(chance, due)
                self.assertTrue(is_table(table))
                self.assertEqual(self.check_partners(table), due)
                self.check_slide(table)

    def test_tables_of_settings(self):
        for drawing in banded_drawings(10, range(4, 5), range(4, 8)):
            for table in tables_of(drawing, 1, settings(drawing, 1)[-1]):
                self.check_partners(table)
                self.check_slide(table)
        self.assertEqual(table_partners(tables_of(told(TREFOIL), 1, [0, 0, 1, 0, 0])[3]), [2, 3, 0, 1])

    def test_refused(self):
        for thing in (
            None, True, 0, "", (), [[]], [[0]], [[0, 0], [0, 0]], [[0, 0], [1, 0]], [[0, True], [0, 0]], [(0, 1), (0, 0)],
            [[0, 1], [0]], [0, 1], [[0, 2], [0, 0]], [[0, 1, 0, 0], [0, 0, 1, 0], [0, 0, 0, 1], [0, 0, 0, 0]],
            pair_table([at ^ 1 for at in range(10)]),
        ):
            for ask in (table_partners, slide):
                with self.subTest(ask=ask.__name__, thing=thing):
                    with self.assertRaises(errors.FrontError) as caught:
                        ask(thing)
                    self.assertIs(type(caught.exception), errors.NoTable)

    def test_slides_and_partners_may_be_handed_in(self):
        with self.assertRaises(errors.NoTable):
            slide(slide(FALLING))
        with self.assertRaises(errors.NoTable):
            slide(table_partners(FALLING))

    def test_no_answer_takes_long(self):
        chance = random.Random(3)
        tables = [slid_table(chance, random_pairs(chance, 8)) for turn in range(100)]
        begun = time.process_time()
        for table in tables:
            is_table(table), table_partners(table), slide(table)
        self.assertLess(time.process_time() - begun, 5)


class Kept(unittest.TestCase):
    def test_answers_are_the_askers_own(self):
        for table in ([], ONE_PAIR, APART, WITHIN, TANGLED, FALLING):
            for ask in (table_partners, slide):
                with self.subTest(ask=ask.__name__, table=table):
                    kept = repr(table)
                    check_own(self, ask, table, ONE_PAIR)
                    self.assertEqual(repr(table), kept)

    def test_rows_handed_in_may_be_changed_behind_the_call(self):
        handed = [list(row) for row in FALLING]
        partners, found = table_partners(handed), slide(handed)
        kept = repr((partners, found))
        for row in handed:
            row.clear()
        self.assertEqual(repr((partners, found)), kept)


if __name__ == "__main__":
    unittest.main()
