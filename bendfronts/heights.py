"""Heights of threads and of names, by the scales 0 and 1."""

from bendfronts.drawings import ends_of, names_of
from bendfronts.errors import NoHeights
from bendfronts.threads import pairs_ahead, steps_down, tours, turns, uppers_at_ends


def heights_along(tour, uppers):
    """The heights of the threads of a tour that begins with thread 0 and holds them all."""
    heights = [0] * len(tour)
    # Thread 1 is at 0, and thread 0 is the upper one at their birth.
    height = 1
    for thread, step in zip(tour, steps_down(tour, uppers)):
        heights[thread] = height
        height -= step
    return heights


def has_scale(drawing, scale):
    """Whether a drawing has a scale."""
    # Of the empty drawing there is no piece, so it does not have the scale 0.
    return scale == 1 or turns(drawing) == [0]


def thread_heights(drawing, scale):
    """The height of each thread."""
    if not has_scale(drawing, scale):
        raise NoHeights("the scale 0 is had by drawings of one piece with turns 0 alone")
    if scale == 1:
        return [0] * (2 * len(ends_of(drawing)))
    return heights_along(tours(drawing)[0], uppers_at_ends(drawing))


def name_heights(drawing, scale):
    """The height of each name, in order."""
    heights = thread_heights(drawing, scale)
    # At an end the upper thread is one above the lower one by the scale 0, so that ends need no rule of their own.
    return [heights[upper] - heights[lower] for upper, lower in pairs_ahead(drawing, names_of(drawing))]
