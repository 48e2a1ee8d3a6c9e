"""Tables of 0 and 1, reckoned with by what two leaves: how their rows are paired off, and how they slide there.

Within, a row is one number, its mask: column j is bit j.
"""

from bendfronts.drawings import is_whole
from bendfronts.errors import NoTable

MOST_ROWS = 8


def is_bits(thing, many):
    """Whether any thing is a list of so many numbers 0 or 1."""
    if not isinstance(thing, list) or len(thing) != many:
        return False
    return all([is_whole(bit) and bit in (0, 1) for bit in thing])


def has_shape(thing):
    """Whether any thing is a table of any 0 and 1."""
    if not isinstance(thing, list) or len(thing) > MOST_ROWS:
        return False
    return all([is_bits(row, len(thing)) for row in thing])


def mask_of(row):
    """A row of 0 and 1 as its mask."""
    mask = 0
    for j, bit in enumerate(row):
        mask |= bit << j
    return mask


def bits_of(mask, many):
    """The first columns, so many, of a mask."""
    return [mask >> j & 1 for j in range(many)]


def least_bit(mask):
    """The least column at which a mask has 1."""
    return (mask & -mask).bit_length() - 1


def is_high(table):
    """Whether a table has 1 only at places i, j with i less than j."""
    return all([1 not in row[:i + 1] for i, row in enumerate(table)])


def is_square(table):
    """Whether the product of a table with itself is the table of noughts."""
    masks = [mask_of(row) for row in table]
    for row in table:
        product = 0
        for bit, mask in zip(row, masks):
            product ^= mask if bit else 0
        if product != 0:
            return False
    return True


class Pairing:
    """The rows of a high and square table, paired off, and the slide that leads there.

    The rows are taken one by one, from the last one up. partner has each row's partner, None while it has none; slid
    has the masks of the slide's rows. Of the rows taken so far, a slid row times the table is the slid row of its
    partner where that one is beneath it, else nought.
    """

    def __init__(self, table):
        self.partner = [None] * len(table)
        self.slid = [1 << i for i in range(len(table))]
        for i in reversed(range(len(table))):
            self.take(i, mask_of(table[i]))

    def take(self, i, rest):
        """Takes row i; rest, its mask at first, is what is left of it when slid rows beneath are taken off."""
        lone = []
        while rest:
            j = least_bit(rest)
            rest ^= self.slid[j]
            if self.partner[j] is None:
                lone.append(j)
            else:
                # The table is square, so j is the lower one of its pair: the upper one, put to row i, clears it.
                self.slid[i] ^= self.slid[self.partner[j]]
        if lone:
            self.pair(i, lone)

    def pair(self, i, lone):
        """Pairs row i with the first one of the lone rows that are left of it, to which the others are put."""
        first = lone[0]
        for j in lone[1:]:
            self.slid[first] ^= self.slid[j]
        self.partner[i] = first
        self.partner[first] = i


def is_table(thing):
    """Whether any thing is a high, square and full table."""
    if not has_shape(thing) or not is_high(thing) or not is_square(thing):
        return False
    # Of a pair one row counts for the rank, of a row without a partner none does.
    return None not in Pairing(thing).partner


def table_pairing(thing):
    """The pairing of a thing that is to be a high, square and full table."""
    if not is_table(thing):
        raise NoTable("this is no high, square and full table")
    return Pairing(thing)


def table_partners(table):
    """For each row the number that is paired with it."""
    return table_pairing(table).partner


def slide(table):
    """A slide s such that s times the table is the table of the pairs times s."""
    return [bits_of(mask, len(table)) for mask in table_pairing(table).slid]
