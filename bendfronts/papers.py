"""Papers: what is shown for it that a drawing has a banding, or has none."""

from bendfronts.bands import heights_by_name, is_banding, partners_reached, ways_on
from bendfronts.drawings import is_whole, strands
from bendfronts.errors import NoPaper
from bendfronts.settings import is_setting, some_setting

KINDS = ("set", "band", "none")


def is_partners(thing, many):
    """Whether any thing is a list of partners of so many strands."""
    if not isinstance(thing, list) or len(thing) != many:
        return False
    if not all([is_whole(one) and 0 <= one < many for one in thing]):
        return False
    return all([one != at and thing[one] == at for at, one in enumerate(thing)])


def is_stand(thing, many):
    """Whether any thing is a sorted list of lists of partners of so many strands, each once."""
    if not isinstance(thing, list) or not all([is_partners(one, many) for one in thing]):
        return False
    return all([one < onward for one, onward in zip(thing, thing[1:])])


def goes_on(here, letter, height, behind):
    """Whether all partners that may come behind a letter, of those here, are there."""
    there = {tuple(partners): True for partners in behind}
    for partners in here:
        if not all([then in there for then, changed in ways_on(tuple(partners), letter, height)]):
            return False
    return True


def has_stands(drawing, scale, thing):
    """Whether any thing has, for each place, all partners that may come there, and none at the last place."""
    if not isinstance(thing, list) or len(thing) != len(drawing) + 1:
        return False
    if not all([is_stand(stand, many) for stand, many in zip(thing, strands(drawing))]):
        return False
    if thing[0] != [[]] or thing[-1] != []:
        return False
    heights = heights_by_name(drawing, scale)
    return all([
        goes_on(thing[t], letter, heights.get(t), thing[t + 1]) for t, letter in enumerate(drawing)
    ])


def holds(drawing, scale, kind, part):
    """Whether any thing is what a paper of a kind is to have."""
    if kind == "set":
        return is_setting(drawing, scale, part)
    if kind == "band":
        return is_banding(drawing, scale, part)
    return has_stands(drawing, scale, part)


def look(drawing, scale, thing):
    """Looks at any thing as a paper; the first fault is refused."""
    # Refuses a scale that the drawing does not have, ahead of all faults.
    heights_by_name(drawing, scale)
    if not isinstance(thing, tuple) or len(thing) != 2 or thing[0] not in KINDS:
        raise NoPaper("paper")
    kind, part = thing
    if not holds(drawing, scale, kind, part):
        raise NoPaper(kind)


def paper(drawing, scale):
    """Any paper of a drawing."""
    setting = some_setting(drawing, scale)
    if setting is not None:
        return ("set", setting)
    reached = partners_reached(drawing, heights_by_name(drawing, scale))
    return ("none", [[list(partners) for partners in sorted(here)] for here in reached])
