"""A desk that keeps drawings by names, is told rows of words and answers with texts."""

from bendfronts.bands import band_sum
from bendfronts.deeds import deeds
from bendfronts.drawings import names_of
from bendfronts.errors import NoName, NoRow
from bendfronts.groups import marks
from bendfronts.leading import weight
from bendfronts.moves import FORMS, SIDES, moved
from bendfronts.roads import apart
from bendfronts.settings import how_many, some_setting
from bendfronts.texts import read_drawing, read_number, show_drawing, show_list, show_sum
from bendfronts.threads import turns, twists

MOST_LETTERS = 8
MOST_FIGURES = 3

# What stands behind the first word of the rows that are neither `draw` nor a move. By a name a drawing stands, by a new
# one perhaps none.
ROWS = {
    "copy": ("new", "name"),
    "show": ("name",),
    "turns": ("name",),
    "twists": ("name",),
    "many": ("name", "scale"),
    "setting": ("name", "scale"),
    "bands": ("name", "scale"),
    "weight": ("name", "scale"),
    "marks": ("name", "scale"),
    "apart": ("name", "name"),
    "deed": ("name", "number"),
}


def show_pairs(pairs):
    """Tuples of two numbers, each one as a text."""
    return [f"{one}:{other}" for one, other in pairs]


def show_mark(mark):
    """A mark as a text."""
    groups, odd, halves = mark
    pairs = ",".join(show_pairs(groups)) or "-"
    return f"{pairs}/{odd}/{halves}"


def answer_show(parts):
    return show_drawing(parts[0])


def answer_turns(parts):
    return show_list(turns(parts[0]))


def answer_twists(parts):
    return str(twists(parts[0]))


def answer_many(parts):
    drawing, scale = parts
    return str(how_many(drawing, scale))


def answer_setting(parts):
    drawing, scale = parts
    setting = some_setting(drawing, scale)
    return "none" if setting is None else show_list(setting)


def answer_bands(parts):
    drawing, scale = parts
    return " ".join(show_pairs(band_sum(drawing, scale))) or "none"


def answer_weight(parts):
    drawing, scale = parts
    odd, halves = weight(drawing, scale)
    return f"{odd} {halves}"


def answer_marks(parts):
    drawing, scale = parts
    return " ".join([show_mark(mark) for mark in marks(drawing, scale)]) or "none"


def answer_apart(parts):
    one, other = parts
    return ",".join(apart(one, other)) or "none"


def answer_deed(parts):
    drawing, t = parts
    names = names_of(drawing)
    if t not in names:
        raise NoRow("this is no name of the drawing")
    return show_sum(deeds(drawing)[names.index(t)])


# What is answered to a row that changes nothing; drawings stand for their names in what is handed in.
ANSWERS = {
    "show": answer_show,
    "turns": answer_turns,
    "twists": answer_twists,
    "many": answer_many,
    "setting": answer_setting,
    "bands": answer_bands,
    "weight": answer_weight,
    "marks": answer_marks,
    "apart": answer_apart,
    "deed": answer_deed,
}


def read_name(word):
    """The name that a word is, None where it is none."""
    good = word.isascii() and word.isalpha() and word.islower() and len(word) <= MOST_LETTERS
    return word if good else None


def read_part(word, form):
    """What a word of a row tells, None where it is none of its form."""
    if form == "number":
        return read_number(word, MOST_FIGURES)
    if form == "scale":
        return int(word) if word in ("0", "1") else None
    if form == "side":
        return word if word in SIDES else None
    return read_name(word)


def read_parts(words, forms):
    """What the words of a row tell."""
    if len(words) != len(forms):
        raise NoRow("this row has other words")
    parts = [read_part(word, form) for word, form in zip(words, forms)]
    if None in parts:
        raise NoRow("a word of this row is none of its kind")
    return parts


class Desk:
    """A desk; it knows nothing of other ones."""

    def __init__(self):
        self.drawings = {}

    def drawing_by(self, name):
        """The drawing that stands by a name."""
        if name not in self.drawings:
            raise NoName("nothing stands by this name")
        return self.drawings[name]

    def draw(self, rest):
        """Takes what stands behind `draw` and its blank."""
        word, blank, text = rest.partition(" ")
        if read_name(word) is None or not blank:
            raise NoRow("this row has no name, or no text")
        self.drawings[word] = read_drawing(text)
        return "ok"

    def answer(self, first, parts, forms):
        """Does what a row tells, whose words are read."""
        told = [self.drawing_by(part) if form == "name" else part for part, form in zip(parts, forms)]
        if first == "copy":
            self.drawings[parts[0]] = list(told[1])
            return "ok"
        if first in FORMS:
            self.drawings[parts[0]] = moved(told[0], (first,) + tuple(told[1:]))
            return "ok"
        action = ANSWERS[first]
        return action(told)

    def say(self, row):
        """The answer to a row."""
        if not isinstance(row, str):
            raise NoRow("this is no text")
        first, blank, rest = row.partition(" ")
        if first == "draw":
            return self.draw(rest)
        if first not in FORMS and first not in ROWS:
            raise NoRow("there are no such rows")
        forms = ("name",) + FORMS[first] if first in FORMS else ROWS[first]
        return self.answer(first, read_parts(row.split(" ")[1:], forms), forms)
