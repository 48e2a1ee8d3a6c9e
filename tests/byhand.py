"""Second reckonings, as plain as the document's words, for drawings that are small enough."""

import itertools

from samples import B, C, E, tangled


def words_added(*sums):
    """The sum of sums, told as sets of words."""
    total = set()
    for one in sums:
        total ^= one
    return total


def words_times(one, other):
    """The product of two sums, told as sets of words."""
    total = set()
    for word in one:
        for behind in other:
            total ^= {word + behind}
    return total


def sum_behind(old, letter, t, i, j):
    """What stands between i and j behind a letter, by the sums ahead (sets of words, by their places)."""
    kind, k = letter
    x = {(t,)}
    if kind == B:
        if (i, j) == (k, k + 1):
            return {()}
        if i in (k, k + 1) or j in (k, k + 1):
            return set()
        return old[i - 2 if i > k else i, j - 2 if j > k else j]
    if kind == C:
        if (i, j) == (k, k + 1):
            return set()
        if i == k:
            return old[k + 1, j]
        if i == k + 1:
            return words_added(old[k, j], words_times(x, old[k + 1, j]))
        if j == k + 1:
            return old[i, k]
        if j == k:
            return words_added(old[i, k + 1], words_times(old[i, k], x))
        return old[i, j]
    # The strands that are left, by their numbers ahead.
    i, j = i if i < k else i + 2, j if j < k else j + 2
    if i < k < j:
        first = words_added(old[i, k + 1], words_times(old[i, k], x))
        second = words_added(old[k, j], words_times(x, old[k + 1, j]))
        return words_added(old[i, j], words_times(first, second))
    return old[i, j]


def between_by_hand(drawing):
    """For each place the tables of the sums, each sum a sorted list; places behind far too great sums are left out."""
    many, sums, tables = 0, {}, [[]]
    for t, (kind, k) in enumerate(drawing):
        many += {B: 2, C: 0, E: -2}[kind]
        pairs = itertools.combinations(range(many), 2)
        sums = {(i, j): sum_behind(sums, (kind, k), t, i, j) for i, j in pairs}
        tables.append([[sorted(sums.get((i, j), ())) for j in range(many)] for i in range(many)])
        if any(len(one) > 1000 for one in sums.values()):
            break
    return tables


def put_out(one, numbers):
    """What a sum comes to when names are put out for numbers."""
    return sum(all(numbers[name] for name in word) for word in one) % 2


def names_by_hand(drawing):
    return [t for t, (kind, k) in enumerate(drawing) if kind != B]


def settings_by_hand(drawing, heights):
    """All settings, sorted, out of all lists of numbers; heights are those of the names."""
    tables, names, deeds = between_by_hand(drawing), names_by_hand(drawing), []
    for t in names:
        kind, k = drawing[t]
        deeds.append(words_added(set(tables[t][k][k + 1]), {()} if kind == E else set()))
    found = []
    for numbers in itertools.product(*[(0, 1) if height == 0 else (0,) for height in heights]):
        if not any(put_out(deed, dict(zip(names, numbers))) for deed in deeds):
            found.append(list(numbers))
    return found


def partners_in(row):
    """For each strand the number of its partner; a row tells for each strand its pair."""
    return [row.index(pair) if row.index(pair) != at else row.index(pair, at + 1) for at, pair in enumerate(row)]


def banding_by_hand(drawing, heights, changed):
    """The partners at each place and the loose crossings of a banding, None where the crossings lead to none."""
    row, rows, loose, height = [], [[]], [], dict(zip(names_by_hand(drawing), heights))
    for t, (kind, k) in enumerate(drawing):
        if kind == B:
            row = row[:k] + [t, t] + row[k:]
        elif (row[k] == row[k + 1]) != (kind == E):
            return None
        elif kind == E:
            row = row[:k] + row[k + 2:]
        else:
            if height[t] == 0 and tangled(row, k):
                loose.append(t)
            if t in changed and (height[t] != 0 or tangled(row, k)):
                return None
            if t not in changed:
                row = row[:k] + [row[k + 1], row[k]] + row[k + 2:]
        rows.append(partners_in(row))
    return rows, loose


def bandings_by_hand(drawing, heights):
    """All bandings, sorted, out of all lists of crossings."""
    crossings = [t for t, (kind, k) in enumerate(drawing) if kind == C]
    lists = [list(one) for many in range(len(crossings) + 1) for one in itertools.combinations(crossings, many)]
    return sorted(one for one in lists if banding_by_hand(drawing, heights, one) is not None)
