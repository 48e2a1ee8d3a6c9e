"""Bandings: how the strands of a drawing are paired off, place by place.

Within, the partners at a place are a tuple: for each strand the number of its partner.
"""

from bendfronts.drawings import crossings_of, ends_of, is_whole, names_of
from bendfronts.errors import NoBanding
from bendfronts.heights import name_heights


def heights_by_name(drawing, scale):
    """The height of each name of a drawing, by the name."""
    return dict(zip(names_of(drawing), name_heights(drawing, scale)))


def partners_born(partners, k):
    """The partners behind a birth."""
    moved = tuple([one + 2 if one >= k else one for one in partners])
    return moved[:k] + (k + 1, k) + moved[k:]


def partners_ended(partners, k):
    """The partners behind an end."""
    left = partners[:k] + partners[k + 2:]
    return tuple([one - 2 if one > k else one for one in left])


def partners_kept(partners, k):
    """The partners behind a crossing at which each thread has the partner that it had."""
    row = list(partners)
    row[k], row[k + 1] = row[k + 1], row[k]
    row[row[k]] = k
    row[row[k + 1]] = k + 1
    return tuple(row)


def is_tangled(partners, k):
    """Whether the pairs of k and k + 1, which are no partners, lie neither apart nor one within the other."""
    first, second = sorted([sorted([k, partners[k]]), sorted([k + 1, partners[k + 1]])])
    return second[0] < first[1] < second[1]


def ways_on(partners, letter, height):
    """The partners that may come behind a letter, each as a tuple with whether it is changed there."""
    kind, k = letter
    if kind == "born":
        return [(partners_born(partners, k), False)]
    if (partners[k] == k + 1) != (kind == "end"):
        return []
    if kind == "end":
        return [(partners_ended(partners, k), False)]
    found = [(partners_kept(partners, k), False)]
    if height == 0 and not is_tangled(partners, k):
        found.append((partners, True))
    return found


def is_free(partners, letter, height):
    """Whether the number put for a letter's name is free: either one goes on to the same partners."""
    kind, k = letter
    return height == 0 and (kind == "end" or is_tangled(partners, k))


def is_rising(thing, allowed):
    """Whether any thing is a rising list of numbers out of those allowed."""
    if not isinstance(thing, list) or not all([is_whole(one) and one in allowed for one in thing]):
        return False
    return all([one < onward for one, onward in zip(thing, thing[1:])])


def partners_through(drawing, scale, thing):
    """The partners at each place by a thing that is to be a banding; None where it is none."""
    heights = heights_by_name(drawing, scale)
    if not is_rising(thing, crossings_of(drawing)):
        return None
    rows = [()]
    for t, letter in enumerate(drawing):
        found = [then for then, changed in ways_on(rows[-1], letter, heights.get(t)) if changed == (t in thing)]
        if not found:
            return None
        rows.append(found[0])
    return rows


def banding_rows(drawing, scale, thing):
    """The partners at each place by a banding; what is none is refused."""
    rows = partners_through(drawing, scale, thing)
    if rows is None:
        raise NoBanding("this is no banding of the drawing")
    return rows


def is_banding(drawing, scale, thing):
    """Whether any thing is a banding."""
    return partners_through(drawing, scale, thing) is not None


def partners_of(drawing, scale, banding):
    """The partners at each place by a banding."""
    return [list(partners) for partners in banding_rows(drawing, scale, banding)]


def loose(drawing, scale, banding):
    """The rising list of the crossings at which a banding is loose."""
    rows = banding_rows(drawing, scale, banding)
    heights = heights_by_name(drawing, scale)
    return [t for t in crossings_of(drawing) if is_free(rows[t], drawing[t], heights[t])]


def partners_reached(drawing, heights):
    """For each place the partners there by some way on from place 0, as the keys of a dict."""
    reached = [{(): True}]
    for t, letter in enumerate(drawing):
        behind = {}
        for partners in reached[-1]:
            for then, changed in ways_on(partners, letter, heights.get(t)):
                behind[then] = True
        reached.append(behind)
    return reached


def partners_lasting(drawing, heights):
    """For each place the partners there of some banding, as the keys of a dict."""
    lasting = partners_reached(drawing, heights)
    for t in reversed(range(len(drawing))):
        here, due = lasting[t], lasting[t + 1]
        lasting[t] = {
            partners: True for partners in here
            if any([then in due for then, changed in ways_on(partners, drawing[t], heights.get(t))])
        }
    return lasting


def bandings(drawing, scale):
    """All bandings, sorted."""
    heights = heights_by_name(drawing, scale)
    begun = {(): [()]}
    for t, letter in enumerate(drawing):
        behind = {}
        for partners, lists in begun.items():
            for then, changed in ways_on(partners, letter, heights.get(t)):
                more = [one + (t,) for one in lists] if changed else lists
                behind[then] = behind.get(then, []) + more
        begun = behind
    return [list(one) for one in sorted(begun.get((), []))]


def band_sum(drawing, scale):
    """How many bandings there are to each power, as rising tuples (power, number)."""
    ends = len(ends_of(drawing))
    counts = {}
    for banding in bandings(drawing, scale):
        power = len(banding) - ends
        counts[power] = counts.get(power, 0) + 1
    return sorted(counts.items())
