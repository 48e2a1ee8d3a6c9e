"""Drawings, told letter by letter."""

MOST_STRANDS = 8
MOST_BIRTHS = 8
MOST_CROSSINGS = 12

# How many strands more there are behind a letter than ahead of it.
GAINS = {"born": 2, "cross": 0, "end": -2}


def is_whole(thing):
    """Whether any thing is a whole number."""
    # True and False are ints to Python, but no whole numbers here.
    return isinstance(thing, int) and not isinstance(thing, bool)


def is_letter(thing):
    """Whether any thing is a letter, wherever it may stand."""
    if not isinstance(thing, tuple) or len(thing) != 2:
        return False
    kind, k = thing
    return isinstance(kind, str) and kind in GAINS and is_whole(k)


def fits(letter, many):
    """Whether a letter can stand where there are so many strands."""
    kind, k = letter
    if kind == "born":
        return 0 <= k <= many
    return 0 <= k and k + 1 < many


def letters_of(drawing, kind):
    """The numbers of the letters of one kind, rising."""
    return [t for t, letter in enumerate(drawing) if letter[0] == kind]


def is_drawing(thing):
    """Whether any thing is a drawing."""
    if not isinstance(thing, list) or not all([is_letter(part) for part in thing]):
        return False
    counts = strands(thing)
    if not all([fits(letter, many) for letter, many in zip(thing, counts)]):
        return False
    if counts[-1] != 0 or max(counts) > MOST_STRANDS:
        return False
    return len(letters_of(thing, "born")) <= MOST_BIRTHS and len(crossings_of(thing)) <= MOST_CROSSINGS


def strands(drawing):
    """How many strands there are at each place."""
    counts = [0]
    for kind, k in drawing:
        counts.append(counts[-1] + GAINS[kind])
    return counts


def crossings_of(drawing):
    """The numbers of the letters that are crossings, rising."""
    return letters_of(drawing, "cross")


def ends_of(drawing):
    """The numbers of the letters that are ends, rising."""
    return letters_of(drawing, "end")


def names_of(drawing):
    """The numbers of the letters that are crossings or ends, rising."""
    return [t for t, letter in enumerate(drawing) if letter[0] != "born"]
