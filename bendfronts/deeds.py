"""The sums between the strands of a drawing, and the deed."""

from bendfronts.drawings import names_of
from bendfronts.errors import TooMany
from bendfronts.steps import table_behind
from bendfronts.sums import added, multiplied, put

MOST_WORDS = 200


class WordWay:
    """The way to reckon with sums of words."""

    def nought(self):
        return []

    def unit(self):
        return [()]

    def plus(self, one, other):
        return added(one, other)

    def times(self, one, other):
        return multiplied(one, other)


def check_words(table):
    """Refuses a table with a sum of too many words."""
    for row in table:
        for one in row:
            if len(one) > MOST_WORDS:
                raise TooMany(f"a sum between two strands has {len(one)} words")


def sum_tables(drawing):
    """The table of the sums at each place; a list may stand at several places of it."""
    way = WordWay()
    tables = [[]]
    for t, letter in enumerate(drawing):
        tables.append(table_behind(tables[-1], letter, [(t,)], way))
        check_words(tables[-1])
    return tables


def between(drawing):
    """The table of the sums at each place."""
    return [[[list(one) for one in row] for row in table] for table in sum_tables(drawing)]


def deeds(drawing):
    """The deed of each name, in order."""
    tables = sum_tables(drawing)
    found = []
    for t in names_of(drawing):
        kind, k = drawing[t]
        # Added to nought the sum of a crossing stays, but is a list of its own.
        found.append(added(tables[t][k][k + 1], [()] if kind == "end" else []))
    return found


def deed_of(drawing, one):
    """The deed of a sum whose names are the drawing's."""
    deed = dict(zip(names_of(drawing), deeds(drawing)))
    odd = {}
    for word in one:
        for at, name in enumerate(word):
            put(odd, [word[:at] + middle + word[at + 1:] for middle in deed[name]])
    return sorted(odd)
