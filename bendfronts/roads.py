"""Roads of moves, and in what two drawings are unlike that no road leads to one another."""

from bendfronts.bands import band_sum
from bendfronts.errors import NoMove, TooMany
from bendfronts.groups import marks
from bendfronts.heights import has_scale
from bendfronts.moves import moved
from bendfronts.threads import turns, twists

MOST_MOVES = 60


def walked(drawing, moves):
    """All drawings that come by moves, done one after the other, the first one ahead."""
    if not isinstance(moves, list):
        raise NoMove("this is no list of moves")
    drawings = [list(drawing)]
    for move in moves:
        drawings.append(moved(drawings[-1], move))
    return drawings


def is_road(one, other, thing):
    """Whether any thing is a road from one drawing to another one."""
    if not isinstance(thing, list) or len(thing) > MOST_MOVES:
        return False
    try:
        return walked(one, thing)[-1] == other
    except NoMove:
        return False


def marks_told(drawing, scale):
    """The marks of a drawing, None where they are refused."""
    try:
        return marks(drawing, scale)
    except TooMany:
        return None


def apart_by(one, other, scale):
    """In what two drawings are unlike by a scale that both have."""
    found = []
    if band_sum(one, scale) != band_sum(other, scale):
        found.append(f"bands {scale}")
    first = marks_told(one, scale)
    second = marks_told(other, scale)
    if first is not None and second is not None and first != second:
        found.append(f"marks {scale}")
    return found


def apart(one, other):
    """In what two drawings are unlike, of what no road changes."""
    first = sorted(turns(one))
    second = sorted(turns(other))
    found = []
    if first != second:
        found.append("turns")
    if len(first) == 1 and len(second) == 1 and twists(one) != twists(other):
        found.append("twists")
    for scale in (0, 1):
        if has_scale(one, scale) and has_scale(other, scale):
            found += apart_by(one, other, scale)
    return found
