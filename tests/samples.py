"""Drawings that several tests share, the short drawings, one by one, and the greatest ones, some of them."""

import random

from bendfronts.drawings import strands
from bendfronts.errors import NoMove
from bendfronts.moves import moved
from bendfronts.threads import turns

B, C, E = "born", "cross", "end"

LETTERS = {"b": B, "c": C, "e": E}
SIDES = ("above", "below")


def told(text):
    """A drawing out of letters such as `b0 c1 e0`."""
    return [(LETTERS[word[0]], int(word[1:])) for word in text.split()]


EMPTY = ""
ROUND = "b0 e0"
TREFOIL = "b0 b2 c1 c1 c1 e0 e0"
ZIGZAG = "b0 b1 e0 e0"
CURLED = "b0 b0 c1 e0 e0"
ODD_LINK = "b0 b2 c1 c1 e0 e0"
EVEN_LINK = "b0 b1 c0 c0 e1 e0"
THREE_BIRTHS = "b0 b0 b0 e1 e2 e0"

SAMPLES = (EMPTY, ROUND, TREFOIL, ZIGZAG, CURLED, ODD_LINK, EVEN_LINK, THREE_BIRTHS)


def written(drawing):
    """The letters of a drawing, as they are told here."""
    return " ".join(f"{kind[0]}{k}" for kind, k in drawing)


def scales_of(drawing):
    """The scales that a drawing has."""
    return (0, 1) if turns(drawing) == [0] else (1,)


def has_eight_strands(drawing):
    return max(strands(drawing)) == 8


def letters_at(many):
    """All letters that can stand where there are so many strands."""
    found = [(B, k) for k in range(many + 1)]
    for kind in (C, E):
        found += [(kind, k) for k in range(many - 1)]
    return found


def short_drawings(longest, begun=(), many=0):
    """All drawings of at most so many letters."""
    if many == 0:
        yield list(begun)
    room = longest - len(begun)
    for kind, k in letters_at(many):
        then = many + {B: 2, C: 0, E: -2}[kind]
        if then // 2 <= room - 1:
            yield from short_drawings(longest, begun + ((kind, k),), then)


def random_drawing(chance):
    """A drawing of four to eight births and twelve crossings, at random."""
    births, crossings, many, drawing = chance.randint(4, 8), 12, 0, []
    while births or crossings or many:
        kinds = []
        if births and many < 8:
            kinds += [B] * births
        if many:
            kinds += [C] * crossings
            # While crossings are still due the last strands stay.
            if many > 2 or births or not crossings:
                kinds += [E] * 2
        kind = chance.choice(kinds)
        k = chance.randrange(many + 1 if kind == B else many - 1)
        drawing.append((kind, k))
        births -= kind == B
        crossings -= kind == C
        many += {B: 2, C: 0, E: -2}[kind]
    return drawing


def greatest_drawings(many, fits=lambda drawing: True):
    """So many drawings of four births or more, eight strands and twelve crossings, always the same ones."""
    chance, found = random.Random(7), []
    while len(found) < many:
        drawing = random_drawing(chance)
        held = [0]
        for kind, k in drawing:
            held.append(held[-1] + {B: 2, C: 0, E: -2}[kind])
        if max(held) == 8 and fits(drawing):
            found.append(drawing)
    return found


def tangled(row, k):
    """Whether the two pairs of which k and k + 1 are come in turn; a row tells for each strand its pair."""
    both = [pair for pair in row if pair in (row[k], row[k + 1])]
    return both[0] == both[2]


def banded_letters(row, births, crossings):
    """The letters by which a drawing that shall have a banding goes on, the likelier ones more often."""
    alike = [k for k in range(len(row) - 1) if row[k] == row[k + 1]]
    unlike = [k for k in range(len(row) - 1) if row[k] != row[k + 1]]
    found = []
    if births and len(row) < 8:
        found += [(B, k) for k in range(len(row) + 1)] * 3
    if crossings:
        found += [(C, k) for k in unlike] * 2
    # While crossings are still due the last four strands stay.
    if len(row) > 4 or births or not crossings:
        found += [(E, k) for k in alike]
    return found


def banded_drawing(chance, births, crossings):
    """A drawing of so many births and crossings that has a banding by the scale 1; None where none came."""
    row, drawing = [], []
    while births or crossings or row:
        letters = banded_letters(row, births, crossings)
        if not letters:
            return None
        kind, k = chance.choice(letters)
        drawing.append((kind, k))
        if kind == B:
            row[k:k] = [births, births]
            births -= 1
        elif kind == E:
            del row[k:k + 2]
        else:
            crossings -= 1
            if tangled(row, k) or chance.random() < 0.5:
                row[k], row[k + 1] = row[k + 1], row[k]
    return drawing


def banded_drawings(many, births, crossings, fits=lambda drawing: True):
    """So many drawings that have bandings, of births and crossings out of two ranges, always the same ones."""
    chance, found = random.Random(8), []
    while len(found) < many:
        drawing = banded_drawing(chance, chance.choice(births), chance.choice(crossings))
        if drawing is not None and fits(drawing):
            found.append(drawing)
    return found


def all_moves(drawing):
    """All moves that a drawing might have: of each word, with each number."""
    counts = strands(drawing)
    for t in range(len(drawing) + 1):
        for word in ("slide", "three", "pull", "uncurl"):
            yield word, t
        for side in SIDES:
            yield "push", t, side
            for k in range(counts[t] + 1):
                yield "curl", t, k, side


def drawn_step(chance, drawing):
    """A move that can be done, and what it leads to; None where there is none."""
    found = {}
    for move in all_moves(drawing):
        try:
            step = move, moved(drawing, move)
        except NoMove:
            continue
        found.setdefault(move[0], []).append(step)
    # The word first, so that threes come as often as curls.
    return chance.choice(found[chance.choice(sorted(found))]) if found else None


def drawn_road(chance, drawing, many):
    """So many drawn moves from a drawing on, and all drawings that come."""
    moves, drawings = [], [drawing]
    for step in range(many):
        found = drawn_step(chance, drawings[-1])
        if found is None:
            break
        moves.append(found[0])
        drawings.append(found[1])
    return moves, drawings


def lists_within(thing):
    """Every list in a thing, itself too, once for each place where it stands."""
    found = []
    if isinstance(thing, list):
        found.append(thing)
    if isinstance(thing, (list, tuple)):
        for part in thing:
            found += lists_within(part)
    return found


def check_own(case, ask, drawing, later=((B, 0), (E, 0))):
    """That an answer is the asker's own, and that what was handed in stays as it was."""
    handed = list(drawing)
    first = ask(handed)
    case.assertEqual(handed, drawing, "what was handed in was changed")
    kept = repr(first)
    second = ask(handed)
    lists = lists_within(first) + lists_within(second) + [handed]
    case.assertEqual(len({id(one) for one in lists}), len(lists), "a list stands at two places")
    for one in lists_within(first):
        one.append("mine")
    case.assertEqual(repr(second), kept, "an answer hangs on another one")
    case.assertEqual(repr(ask(handed)), kept, "a later answer hangs on a changed one")
    handed.clear()
    case.assertEqual(repr(second), kept, "an answer hangs on what was handed in")
    ask(list(later))
    case.assertEqual(repr(second), kept, "an answer hangs on what was asked later")
    case.assertEqual(repr(ask(list(drawing))), kept)
