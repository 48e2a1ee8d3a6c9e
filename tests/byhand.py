"""Second reckonings, as plain as the document's words, for drawings that are small enough."""

import itertools

from samples import B, C, E, tangled


def words_added(*sums):
    """The sum of sums, told as sets of words."""
    total = set()
    for one in sums:
        total ^= one
    return total


def words_times(one, other):
    """The product of two sums, told as sets of words."""
    total = set()
    for word in one:
        for behind in other:
            total ^= {word + behind}
    return total


def sum_behind(old, letter, t, i, j):
    """What stands between i and j behind a letter, by the sums ahead (sets of words, by their places)."""
    kind, k = letter
    x = {(t,)}
    if kind == B:
        if (i, j) == (k, k + 1):
            return {()}
        if i in (k, k + 1) or j in (k, k + 1):
            return set()
        return old[i - 2 if i > k else i, j - 2 if j > k else j]
    if kind == C:
        if (i, j) == (k, k + 1):
            return set()
        if i == k:
            return old[k + 1, j]
        if i == k + 1:
            return words_added(old[k, j], words_times(x, old[k + 1, j]))
        if j == k + 1:
            return old[i, k]
        if j == k:
            return words_added(old[i, k + 1], words_times(old[i, k], x))
        return old[i, j]
    # The strands that are left, by their numbers ahead.
    i, j = i if i < k else i + 2, j if j < k else j + 2
    if i < k < j:
        first = words_added(old[i, k + 1], words_times(old[i, k], x))
        second = words_added(old[k, j], words_times(x, old[k + 1, j]))
        return words_added(old[i, j], words_times(first, second))
    return old[i, j]


def between_by_hand(drawing):
    """For each place the tables of the sums, each sum a sorted list; places behind far too great sums are left out."""
    many, sums, tables = 0, {}, [[]]
    for t, (kind, k) in enumerate(drawing):
        many += {B: 2, C: 0, E: -2}[kind]
        pairs = itertools.combinations(range(many), 2)
        sums = {(i, j): sum_behind(sums, (kind, k), t, i, j) for i, j in pairs}
        tables.append([[sorted(sums.get((i, j), ())) for j in range(many)] for i in range(many)])
        if any(len(one) > 1000 for one in sums.values()):
            break
    return tables


def put_out(one, numbers):
    """What a sum comes to when names are put out for numbers."""
    return sum(all(numbers[name] for name in word) for word in one) % 2


def names_by_hand(drawing):
    return [t for t, (kind, k) in enumerate(drawing) if kind != B]


def deeds_by_hand(drawing):
    """The deed of each name, in order, as a set of words; None where sums are far too great."""
    tables, found = between_by_hand(drawing), []
    if len(tables) <= len(drawing):
        return None
    for t in names_by_hand(drawing):
        kind, k = drawing[t]
        found.append(words_added(set(tables[t][k][k + 1]), {()} if kind == E else set()))
    return found


def settings_by_hand(drawing, heights):
    """All settings, sorted, out of all lists of numbers; heights are those of the names."""
    names, deeds, found = names_by_hand(drawing), deeds_by_hand(drawing), []
    for numbers in itertools.product(*[(0, 1) if height == 0 else (0,) for height in heights]):
        if not any(put_out(deed, dict(zip(names, numbers))) for deed in deeds):
            found.append(list(numbers))
    return found


def partners_in(row):
    """For each strand the number of its partner; a row tells for each strand its pair."""
    return [row.index(pair) if row.index(pair) != at else row.index(pair, at + 1) for at, pair in enumerate(row)]


def banding_by_hand(drawing, heights, changed):
    """The partners at each place and the loose crossings of a banding, None where the crossings lead to none."""
    row, rows, loose, height = [], [[]], [], dict(zip(names_by_hand(drawing), heights))
    for t, (kind, k) in enumerate(drawing):
        if kind == B:
            row = row[:k] + [t, t] + row[k:]
        elif (row[k] == row[k + 1]) != (kind == E):
            return None
        elif kind == E:
            row = row[:k] + row[k + 2:]
        else:
            if height[t] == 0 and tangled(row, k):
                loose.append(t)
            if t in changed and (height[t] != 0 or tangled(row, k)):
                return None
            if t not in changed:
                row = row[:k] + [row[k + 1], row[k]] + row[k + 2:]
        rows.append(partners_in(row))
    return rows, loose


def bandings_by_hand(drawing, heights):
    """All bandings, sorted, out of all lists of crossings."""
    crossings = [t for t, (kind, k) in enumerate(drawing) if kind == C]
    lists = [list(one) for many in range(len(crossings) + 1) for one in itertools.combinations(crossings, many)]
    return sorted(one for one in lists if banding_by_hand(drawing, heights, one) is not None)


def straight_by_hand(drawing, deeds, setting):
    """The straight deed of each name, in order, out of the words of the deeds."""
    numbers, found = dict(zip(names_by_hand(drawing), setting)), []
    for deed in deeds:
        odd = set()
        for word in deed:
            for at, name in enumerate(word):
                if all(numbers[other] for other in word[:at] + word[at + 1:]):
                    odd ^= {name}
        found.append(sorted(odd))
    return found


def rank_by_hand(lists):
    """How many of some lists of names there are, at most, none of which is a sum of others: by all their sums."""
    sums = {frozenset()}
    for one in lists:
        sums |= {frozenset(one) ^ other for other in sums}
    return len(sums).bit_length() - 1


def groups_by_hand(heights, straights, scale):
    """The groups; heights and straight deeds are those of the names, in order."""
    def rank(height):
        return rank_by_hand([one for one, its in zip(straights, heights) if its == height])

    if scale == 1:
        found = [(0, len(heights) - 2 * rank(0))]
    else:
        found = [(one, heights.count(one) - rank(one) - rank(one + 1)) for one in sorted(set(heights))]
    return [(height, number) for height, number in found if number]


def slid_by_hand(first, i, second, j):
    """The two letters that two letters become by a slide, None where it can't be done: row by row, as it is told."""
    rows = {
        (C, C): [(j - i >= 2 or i - j >= 2, (C, j), (C, i))],
        (B, C): [(j >= i + 2, (C, j - 2), (B, i)), (j <= i - 2, (C, j), (B, i))],
        (B, B): [(j >= i + 2, (B, j - 2), (B, i)), (j <= i, (B, j), (B, i + 2))],
        (B, E): [(j >= i + 3, (E, j - 2), (B, i)), (j <= i - 3, (E, j), (B, i - 2))],
        (C, B): [(j <= i, (B, j), (C, i + 2)), (j >= i + 2, (B, j), (C, i))],
        (C, E): [(j <= i - 2, (E, j), (C, i - 2)), (j >= i + 2, (E, j), (C, i))],
        (E, C): [(j >= i, (C, j + 2), (E, i)), (j <= i - 2, (C, j), (E, i))],
        (E, B): [(j <= i - 1, (B, j), (E, i + 2)), (j >= i + 1, (B, j + 2), (E, i))],
        (E, E): [(j >= i, (E, j + 2), (E, i)), (j <= i - 2, (E, j), (E, i - 2))],
    }
    found = [[one, other] for holds, one, other in rows[first, second] if holds]
    return found[0] if found else None


def letters_by_hand(drawing, move):
    """How many letters a move takes and which it puts there, None where they aren't as told."""
    word, t = move[:2]
    here = drawing[t:t + 3]
    k = min([number for kind, number in here], default=0)
    if word == "slide":
        new = slid_by_hand(*here[0], *here[1]) if len(here) > 1 else None
        return None if new is None else (2, new)
    if word == "three":
        one, other = [(C, k), (C, k + 1), (C, k)], [(C, k + 1), (C, k), (C, k + 1)]
        return (3, other) if here == one else (3, one) if here == other else None
    if word == "pull":
        for old, new in (
            ([(B, k + 1), (C, k), (C, k + 1)], (B, k)), ([(B, k), (C, k + 1), (C, k)], (B, k + 1)),
            ([(C, k), (C, k + 1), (E, k)], (E, k + 1)), ([(C, k + 1), (C, k), (E, k + 1)], (E, k)),
        ):
            if here == old:
                return 3, [new]
        return None
    if word == "uncurl":
        curls = ([(B, k), (C, k + 1), (E, k)], [(B, k + 1), (C, k), (E, k + 1)])
        return (3, []) if here in curls else None
    if word == "push":
        if t >= len(drawing) or drawing[t][0] == C:
            return None
        kind, k = drawing[t]
        return 1, {
            (B, "above"): [(B, k - 1), (C, k), (C, k - 1)], (E, "above"): [(C, k - 1), (C, k), (E, k - 1)],
            (B, "below"): [(B, k + 1), (C, k), (C, k + 1)], (E, "below"): [(C, k + 1), (C, k), (E, k + 1)],
        }[kind, move[2]]
    k = move[2]
    return 0, [(B, k), (C, k + 1), (E, k)] if move[3] == "above" else [(B, k + 1), (C, k), (E, k + 1)]


def all_partners(many):
    """All lists of partners of so many strands, sorted."""
    found = []
    for row in pairs_of(list(range(many))):
        partners = [0] * many
        for one, other in row:
            partners[one], partners[other] = other, one
        found.append(partners)
    return sorted(found)


def pairs_of(numbers):
    """All ways to pair off some numbers."""
    if not numbers:
        return [[]]
    found = []
    for other in numbers[1:]:
        left = [one for one in numbers[1:] if one != other]
        found += [[(numbers[0], other)] + row for row in pairs_of(left)]
    return found


def partners_behind(partners, letter, height):
    """All lists of partners that may come of one by a letter."""
    kind, k = letter
    row = [min(pair) for pair in enumerate(partners)]
    if kind == B:
        return [partners_in(row[:k] + ["new", "new"] + row[k:])]
    if (row[k] == row[k + 1]) != (kind == E):
        return []
    if kind == E:
        return [partners_in(row[:k] + row[k + 2:])]
    found = [partners_in(row[:k] + [row[k + 1], row[k]] + row[k + 2:])]
    return found + [list(partners)] if height == 0 and not tangled(row, k) else found
