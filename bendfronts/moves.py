"""Moves: how a drawing is told otherwise, by which its counts and groups stay."""

from bendfronts.drawings import GAINS, is_drawing, is_whole, strands
from bendfronts.errors import NoMove

SIDES = ("above", "below")

# What stands behind the text of each move.
FORMS = {
    "slide": ("number",),
    "three": ("number",),
    "pull": ("number",),
    "push": ("number", "side"),
    "curl": ("number", "number", "side"),
    "uncurl": ("number",),
}

# By the kinds of two letters: how much greater, at least, the number of the second one is where it lies beneath the
# first one, and, at most, where it lies above it; between both they can't be slid.
SLIDES = {
    ("born", "born"): (2, 0),
    ("born", "cross"): (2, -2),
    ("born", "end"): (3, -3),
    ("cross", "born"): (2, 0),
    ("cross", "cross"): (2, -2),
    ("cross", "end"): (2, -2),
    ("end", "born"): (1, -1),
    ("end", "cross"): (0, -2),
    ("end", "end"): (0, -2),
}


def is_part(thing, form):
    """Whether any thing is a part of a move, of a form."""
    if form == "side":
        return thing in SIDES
    return is_whole(thing) and thing >= 0


def is_move(thing):
    """Whether any thing is a move of some drawing, as far as can be told without one."""
    if not isinstance(thing, tuple) or not thing or not isinstance(thing[0], str) or thing[0] not in FORMS:
        return False
    forms = FORMS[thing[0]]
    if len(thing) != 1 + len(forms):
        return False
    return all([is_part(part, form) for part, form in zip(thing[1:], forms)])


def slid(letters):
    """Two letters told the other way about; None where they are too near."""
    if len(letters) != 2:
        return None
    (first, i), (second, j) = letters
    beneath, above = SLIDES[(first, second)]
    # Of the two the lower one is numbered anew, as the upper one now comes behind it, or ahead of it.
    if j - i >= beneath:
        return [(second, j - GAINS[first]), (first, i)]
    if j - i <= above:
        return [(second, j), (first, i + GAINS[second])]
    return None


def turned(letters):
    """Three crossings told the other way round; None where the letters are no such three."""
    if [kind for kind, k in letters] != ["cross", "cross", "cross"]:
        return None
    outer, inner, last = [k for kind, k in letters]
    if outer != last or abs(outer - inner) != 1:
        return None
    return [("cross", inner), ("cross", outer), ("cross", inner)]


def pushed(kind, k, side):
    """The three letters that a birth or an end becomes by a push."""
    aside = k - 1 if side == "above" else k + 1
    if kind == "born":
        return [("born", aside), ("cross", k), ("cross", aside)]
    return [("cross", aside), ("cross", k), ("end", aside)]


def curled(k, side):
    """The three letters of a curl of the strand k."""
    aside, inner = (k, k + 1) if side == "above" else (k + 1, k)
    return [("born", aside), ("cross", inner), ("end", aside)]


def slide_change(drawing, move):
    t = move[1]
    letters = slid(drawing[t:t + 2])
    return None if letters is None else (2, letters, move)


def three_change(drawing, move):
    t = move[1]
    letters = turned(drawing[t:t + 3])
    return None if letters is None else (3, letters, move)


def pull_change(drawing, move):
    t = move[1]
    letters = drawing[t:t + 3]
    if len(letters) != 3:
        return None
    # The letter in the middle has the number of the one that was pushed.
    k = letters[1][1]
    for kind in ("born", "end"):
        for side in SIDES:
            if pushed(kind, k, side) == letters:
                return 3, [(kind, k)], ("push", t, side)
    return None


def push_change(drawing, move):
    word, t, side = move
    if t >= len(drawing) or drawing[t][0] == "cross":
        return None
    kind, k = drawing[t]
    return 1, pushed(kind, k, side), ("pull", t)


def curl_change(drawing, move):
    word, t, k, side = move
    if t > len(drawing) or k >= strands(drawing)[t]:
        return None
    return 0, curled(k, side), ("uncurl", t)


def uncurl_change(drawing, move):
    t = move[1]
    letters = drawing[t:t + 3]
    if len(letters) != 3:
        return None
    # The crossing takes the strand that was curled, and a new one beside it.
    k = min(letters[0][1], letters[1][1])
    for side in SIDES:
        if curled(k, side) == letters:
            return 3, [], ("curl", t, k, side)
    return None


# Each one tells how many letters the move takes, the letters that it puts there and the move that leads back; None
# where it can't be done.
CHANGES = {
    "slide": slide_change,
    "three": three_change,
    "pull": pull_change,
    "push": push_change,
    "curl": curl_change,
    "uncurl": uncurl_change,
}


def step_by(drawing, thing):
    """What a drawing becomes by any thing that is to be a move, and the move that leads back; None where it is none."""
    if not is_move(thing):
        return None
    change = CHANGES[thing[0]]
    found = change(drawing, thing)
    if found is None:
        return None
    taken, letters, back = found
    t = thing[1]
    behind = drawing[:t] + letters + drawing[t + taken:]
    return (behind, back) if is_drawing(behind) else None


def step_done(drawing, thing):
    """The same, what is no move that can be done being refused."""
    step = step_by(drawing, thing)
    if step is None:
        raise NoMove("this move can't be done")
    return step


def moved(drawing, move):
    """What a drawing becomes by a move."""
    return step_done(drawing, move)[0]


def way_back(drawing, move):
    """The move that leads back from where a move leads."""
    return step_done(drawing, move)[1]


def moves(drawing):
    """All slides, threes, pulls and uncurls that can be done, sorted."""
    tries = [(word, t) for word in ("pull", "slide", "three", "uncurl") for t in range(len(drawing))]
    return [move for move in tries if step_by(drawing, move) is not None]
