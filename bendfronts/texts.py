"""Drawings, sums and lists of numbers, written as texts and read."""

from bendfronts.drawings import is_drawing
from bendfronts.errors import NoText
from bendfronts.sums import is_sum

LETTERS = {"b": "born", "c": "cross", "e": "end"}

# No drawing has a number of more figures.
LETTER_FIGURES = 1
NAME_FIGURES = 2
MOST_WORDS = 40
MOST_NAMES = 8


def show_drawing(drawing):
    """A drawing as a text."""
    return " ".join([f"{kind[0]}{k}" for kind, k in drawing]) if drawing else "-"


def show_word(word):
    """A word as a text."""
    return ".".join([f"x{name}" for name in word]) if word else "1"


def show_sum(one):
    """A sum as a text."""
    return " + ".join([show_word(word) for word in one]) if one else "0"


def show_list(numbers):
    """A list of whole numbers as a text."""
    return ",".join([str(number) for number in numbers]) if numbers else "-"


def read_number(text, most):
    """The whole number that a text writes, of at most so many figures; None where it is written otherwise."""
    figures = text[1:] if text.startswith("-") else text
    if len(figures) > most or not figures.isascii() or not figures.isdigit():
        return None
    number = int(text)
    # Noughts ahead, and a sign ahead of 0, are lost when the number is written again.
    return number if str(number) == text else None


def read_letter(text):
    """The letter that a text writes."""
    number = read_number(text[1:], LETTER_FIGURES)
    if text[:1] not in LETTERS or number is None:
        raise NoText("this is no letter of a drawing")
    return (LETTERS[text[:1]], number)


def read_drawing(text):
    """The drawing that any thing writes."""
    if not isinstance(text, str):
        raise NoText("this is no text")
    drawing = [] if text == "-" else [read_letter(part) for part in text.split(" ")]
    if not is_drawing(drawing):
        raise NoText("these letters are no drawing")
    return drawing


def read_name(text):
    """The name that a text writes."""
    number = read_number(text[1:], NAME_FIGURES)
    if text[:1] != "x" or number is None:
        raise NoText("this is no name")
    return number


def read_word(text):
    """The word that a text writes."""
    return () if text == "1" else tuple([read_name(part) for part in text.split(".")])


def read_sum(text):
    """The sum that any thing writes."""
    if not isinstance(text, str):
        raise NoText("this is no text")
    words = [] if text == "0" else [read_word(part) for part in text.split(" + ")]
    if not is_sum(words) or len(words) > MOST_WORDS or max([len(word) for word in words], default=0) > MOST_NAMES:
        raise NoText("these words are no sum")
    return words
