"""Settings: numbers 0 and 1 put for the names of a drawing, such that every deed comes to nought."""

from bendfronts.bands import heights_by_name, is_free, partners_lasting, ways_on
from bendfronts.errors import NoSetting, TooMany
from bendfronts.steps import table_behind
from bendfronts.tables import Pairing, is_bits

MOST_SETTINGS = 500


class NumberWay:
    """The way to reckon with 0 and 1, by what two leaves."""

    def nought(self):
        return 0

    def unit(self):
        return 1

    def plus(self, one, other):
        return one ^ other

    def times(self, one, other):
        return one & other


def has_deed(table, letter):
    """Whether the deed of a letter's name comes to 1 where the table ahead of it is this one."""
    kind, k = letter
    if kind == "born":
        return False
    return table[k][k + 1] != (1 if kind == "end" else 0)


def tables_through(drawing, scale, thing):
    """The tables at each place by a thing that is to be a setting; None where it is none."""
    heights = heights_by_name(drawing, scale)
    if not is_bits(thing, len(heights)):
        return None
    numbers = dict(zip(heights, thing))
    if any([number == 1 and heights[t] != 0 for t, number in numbers.items()]):
        return None
    tables = [[]]
    for t, letter in enumerate(drawing):
        if has_deed(tables[-1], letter):
            return None
        tables.append(table_behind(tables[-1], letter, numbers.get(t), NumberWay()))
    return tables


def is_setting(drawing, scale, thing):
    """Whether any thing is a setting."""
    return tables_through(drawing, scale, thing) is not None


def tables_of(drawing, scale, setting):
    """The tables of a setting, one for each place."""
    tables = tables_through(drawing, scale, setting)
    if tables is None:
        raise NoSetting("this is no setting of the drawing")
    return tables


def how_many(drawing, scale):
    """How many settings there are."""
    # Counted by bandings: a number that is free doubles the settings, any other one is due for the banding.
    heights = heights_by_name(drawing, scale)
    counts = {(): 1}
    for t, letter in enumerate(drawing):
        behind = {}
        for partners, count in counts.items():
            for then, changed in ways_on(partners, letter, heights.get(t)):
                more = 2 * count if is_free(partners, letter, heights.get(t)) else count
                behind[then] = behind.get(then, 0) + more
        counts = behind
    return counts.get((), 0)


def numbers_on(table, letter, height, due):
    """The numbers for a letter's name by which partners come that are due, each as a tuple with the table behind."""
    allowed = (0, 1) if height == 0 else (0,)
    found = []
    for number in allowed:
        then = table_behind(table, letter, number, NumberWay())
        if tuple(Pairing(then).partner) in due:
            found.append((number, then))
    return found


def settings_along(drawing, heights, dues, most):
    """The settings by which at each place partners come that are due there, or so many of them.

    dues has for each place the partners due, as the keys of a dict; from each of them some banding goes on through
    others that are due.
    """
    begun = [((), [])]
    for t, letter in enumerate(drawing):
        behind = []
        for numbers, table in begun:
            for number, then in numbers_on(table, letter, heights.get(t), dues[t + 1]):
                # A birth has no name, so no number either.
                behind.append((numbers + (number,) if t in heights else numbers, then))
        begun = behind[:most]
    return [list(numbers) for numbers, table in begun]


def some_setting(drawing, scale):
    """Any setting, or None where there is none."""
    heights = heights_by_name(drawing, scale)
    found = settings_along(drawing, heights, partners_lasting(drawing, heights), 1)
    return found[0] if found else None


def settings(drawing, scale):
    """All settings, sorted."""
    if how_many(drawing, scale) > MOST_SETTINGS:
        raise TooMany("there are more settings than are told")
    heights = heights_by_name(drawing, scale)
    return sorted(settings_along(drawing, heights, partners_lasting(drawing, heights), MOST_SETTINGS))
