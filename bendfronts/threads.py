"""Threads of a drawing, the pieces that they hang together in, and how these turn and twist."""

from bendfronts.drawings import crossings_of, ends_of


def threads(drawing):
    """For each place the threads there, from the uppermost strand on."""
    rows = [[]]
    born = 0
    for kind, k in drawing:
        row = list(rows[-1])
        if kind == "born":
            row[k:k] = [born, born + 1]
            born += 2
        elif kind == "cross":
            row[k], row[k + 1] = row[k + 1], row[k]
        else:
            del row[k:k + 2]
        rows.append(row)
    return rows


def pairs_ahead(drawing, numbers):
    """For each of these letters (crossings, ends) the upper and the lower thread that it takes, ahead of it."""
    rows = threads(drawing)
    found = []
    for t in numbers:
        k = drawing[t][1]
        found.append((rows[t][k], rows[t][k + 1]))
    return found


def end_pairs(drawing):
    """The upper and the lower thread of each end."""
    return pairs_ahead(drawing, ends_of(drawing))


def born_with(thread):
    """The thread that is born together with a thread."""
    # Each birth numbers two threads, the even number first: they differ in the last bit alone.
    return thread ^ 1


def end_mates(drawing):
    """For each thread the thread that ends together with it."""
    pairs = end_pairs(drawing)
    mates = [0] * (2 * len(pairs))
    for upper, lower in pairs:
        mates[upper] = lower
        mates[lower] = upper
    return mates


def tour_from(first, mates):
    """The threads of a piece as one goes along it: the first one to the right, the next to the left, and so on."""
    tour = [first, mates[first]]
    while born_with(tour[-1]) != first:
        onward = born_with(tour[-1])
        tour.append(onward)
        tour.append(mates[onward])
    return tour


def tours(drawing):
    """The tour of each piece from its least thread on, in the order of the pieces."""
    mates = end_mates(drawing)
    gone = [False] * len(mates)
    found = []
    for first in range(len(mates)):
        if not gone[first]:
            tour = tour_from(first, mates)
            for thread in tour:
                gone[thread] = True
            found.append(tour)
    return found


def pieces(drawing):
    """For each thread the number of its piece."""
    numbers = [0] * (2 * len(ends_of(drawing)))
    for number, tour in enumerate(tours(drawing)):
        for thread in tour:
            numbers[thread] = number
    return numbers


def to_right(drawing):
    """For each thread whether it is gone to the right."""
    rightward = [False] * (2 * len(ends_of(drawing)))
    for tour in tours(drawing):
        for thread in tour[::2]:
            rightward[thread] = True
    return rightward


def uppers_at_ends(drawing):
    """For each thread whether it is the upper one at its end."""
    uppers = [False] * (2 * len(ends_of(drawing)))
    for upper, lower in end_pairs(drawing):
        uppers[upper] = True
    return uppers


def steps_down(tour, uppers):
    """For each thread of a tour the step by which one leaves it: 1 down, -1 up."""
    steps = []
    for at, thread in enumerate(tour):
        # A rightward thread is left at its end, a leftward one (every second one) at its birth.
        upper = thread < born_with(thread) if at & 1 else uppers[thread]
        steps.append(1 if upper else -1)
    return steps


def turns(drawing):
    """The turns of each piece: half of how many more steps it has one way than the other."""
    uppers = uppers_at_ends(drawing)
    return [abs(sum(steps_down(tour, uppers))) // 2 for tour in tours(drawing)]


def twists(drawing):
    """How many even crossings there are, less how many odd ones, less how many ends."""
    rightward = to_right(drawing)
    total = -len(ends_of(drawing))
    for upper, lower in pairs_ahead(drawing, crossings_of(drawing)):
        total += 1 if rightward[upper] == rightward[lower] else -1
    return total
