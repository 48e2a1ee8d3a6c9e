"""The straight deed at a setting, its groups, and the marks of a drawing."""

from bendfronts.bands import heights_by_name
from bendfronts.drawings import names_of
from bendfronts.leading import shift, weight_of
from bendfronts.settings import settings, tables_of
from bendfronts.steps import table_behind
from bendfronts.tables import least_bit


class StraightWay:
    """The way to reckon with what sums come to at a setting, and with the names that stand straight for them.

    Both are one number: bit 0 is what the sum comes to, bit t + 1 tells whether the name t stands for the sum an odd
    number of times, all other names of its words having 1.
    """

    def nought(self):
        return 0

    def unit(self):
        return 1

    def plus(self, one, other):
        return one ^ other

    def times(self, one, other):
        # A name of the one factor stands for the product where the other factor comes to 1.
        product = other if one & 1 else 0
        return product ^ (one & -2) if other & 1 else product


def straight_masks(drawing, setting):
    """The straight deed of each name by the name, as a mask: bit t is the name t."""
    numbers = dict(zip(names_of(drawing), setting))
    way = StraightWay()
    table = []
    masks = {}
    for t, letter in enumerate(drawing):
        # An end's deed has the word without names more, which has no name that could stand for it.
        if t in numbers:
            k = letter[1]
            masks[t] = table[k][k + 1] >> 1
        table = table_behind(table, letter, numbers.get(t, 0) | 2 << t, way)
    return masks


def straight(drawing, scale, setting):
    """The straight deed of each name, in order."""
    # Refuses what is no setting.
    tables_of(drawing, scale, setting)
    masks = straight_masks(drawing, setting)
    return [[name for name in masks if mask >> name & 1] for mask in masks.values()]


def rank_of(masks):
    """How many of some masks there are, at most, none of which is a sum of others of them."""
    kept = {}
    for mask in masks:
        rest = mask
        while rest and least_bit(rest) in kept:
            rest ^= kept[least_bit(rest)]
        if rest:
            kept[least_bit(rest)] = rest
    return len(kept)


def groups_at(heights, masks, scale):
    """The groups of straight deeds, told as masks; heights and masks are told by the names."""
    found = {}
    for name, height in heights.items():
        found.setdefault(height, []).append(masks[name])
    ranks = {height: rank_of(found[height]) for height in found}
    # By the scale 1 the straight deed leads from the only height there is to itself.
    step = 1 if scale == 0 else 0
    rows = [(height, len(found[height]) - ranks[height] - ranks.get(height + step, 0)) for height in sorted(found)]
    return [(height, number) for height, number in rows if number != 0]


def groups(drawing, scale, setting):
    """The groups at a setting."""
    tables_of(drawing, scale, setting)
    return groups_at(heights_by_name(drawing, scale), straight_masks(drawing, setting), scale)


def marks(drawing, scale):
    """For each list of groups that some setting has, it and the weight of how many settings have it."""
    heights = heights_by_name(drawing, scale)
    counts = {}
    for setting in settings(drawing, scale):
        group = tuple(groups_at(heights, straight_masks(drawing, setting), scale))
        counts[group] = counts.get(group, 0) + 1
    less = shift(drawing, scale)
    return [(list(group),) + weight_of(counts[group], less) for group in sorted(counts)]
