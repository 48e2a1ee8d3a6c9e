"""How what stands between the strands goes on from place to place.

Sums of words go on by the same rules as what they are put out for. So these rules leave the reckoning to a way: an
object with `nought()`, `unit()`, `plus(one, other)` and `times(one, other)`, none of which changes what it is handed.
"""


def behind_birth(table, k, way):
    """The table behind the letter ("born", k)."""
    rows = [row[:k] + [way.nought(), way.nought()] + row[k:] for row in table]
    rows[k:k] = [[way.nought() for j in range(len(table) + 2)] for new in range(2)]
    rows[k][k + 1] = way.unit()
    return rows


def behind_crossing(table, k, name, way):
    """The table behind the letter ("cross", k)."""
    rows = [list(row) for row in table]
    rows[k][k + 1] = way.nought()
    for j in range(k + 2, len(table)):
        rows[k][j] = table[k + 1][j]
        rows[k + 1][j] = way.plus(table[k][j], way.times(name, table[k + 1][j]))
    for i in range(k):
        rows[i][k + 1] = table[i][k]
        rows[i][k] = way.plus(table[i][k + 1], way.times(table[i][k], name))
    return rows


def behind_end(table, k, name, way):
    """The table behind the letter ("end", k)."""
    onto = [way.plus(row[k + 1], way.times(row[k], name)) for row in table[:k]]
    off = [way.plus(upper, way.times(name, lower)) for upper, lower in zip(table[k], table[k + 1])]
    rows = [row[:k] + row[k + 2:] for row in table[:k] + table[k + 2:]]
    for i in range(k):
        for j in range(k, len(rows)):
            rows[i][j] = way.plus(rows[i][j], way.times(onto[i], off[j + 2]))
    return rows


def table_behind(table, letter, name, way):
    """The table behind a letter; name is what stands for the letter's name, for a birth anything."""
    kind, k = letter
    if kind == "born":
        return behind_birth(table, k, way)
    if kind == "cross":
        return behind_crossing(table, k, name, way)
    return behind_end(table, k, name, way)
