"""How settings lead to bandings, and what both weigh."""

from bendfronts.bands import band_sum, banding_rows, heights_by_name, loose
from bendfronts.drawings import crossings_of, ends_of
from bendfronts.heights import name_heights
from bendfronts.settings import how_many, settings_along, tables_of
from bendfronts.tables import Pairing, least_bit


def banding_of(drawing, scale, setting):
    """The banding to which a setting leads."""
    rows = [Pairing(table).partner for table in tables_of(drawing, scale, setting)]
    # Two that cross are no partners, so where they are kept their numbers have other partners behind the crossing.
    return [t for t in crossings_of(drawing) if rows[t] == rows[t + 1]]


def setting_to(drawing, scale, banding):
    """Any setting that leads to a banding."""
    dues = [{partners: True} for partners in banding_rows(drawing, scale, banding)]
    return settings_along(drawing, heights_by_name(drawing, scale), dues, 1)[0]


def many_to(drawing, scale, banding):
    """How many settings lead to a banding."""
    free = len(loose(drawing, scale, banding))
    if scale == 1:
        free += len(ends_of(drawing))
    return 1 << free


def shift_at(height):
    """What a name of a height adds to the shift."""
    return 1 if (height & 1 == 0) == (height >= 0) else -1


def shift(drawing, scale):
    """The shift of a drawing."""
    # By the scale 1 all heights are 0, so that each name adds 1.
    return sum([shift_at(height) for height in name_heights(drawing, scale)])


def weight_of(count, less):
    """The weight of a whole number from 0 on, with a shift."""
    if count == 0:
        return (0, 0)
    twos = least_bit(count)
    return (count >> twos, 2 * twos - less)


def weight(drawing, scale):
    """The weight of how many settings there are."""
    return weight_of(how_many(drawing, scale), shift(drawing, scale))


def band_weight(drawing, scale):
    """The weight of the bandings, out of the band sum alone."""
    bands = band_sum(drawing, scale)
    if not bands:
        return (0, 0)
    # All is divided as often as the greatest power tells, the others being brought there; they differ by even numbers.
    greatest = bands[-1][0]
    total = sum([number << (greatest - power) // 2 for power, number in bands])
    return weight_of(total, greatest)
