"""Rows and names as texts, each with one writing, and rows read back."""

from evenlots.errors import NoText
from evenlots.things import MOST_HANDS, is_tag

MOST_FIGURES = 30
NO_THINGS = "-"


def show_thing(thing):
    return str(thing[0]) + ":" + thing[1]


def show_row(row):
    if not row:
        return NO_THINGS
    return ", ".join([show_thing(thing) for thing in row])


def show_rows(rows):
    """Rows of hands as a text."""
    return "; ".join([show_row(row) for row in rows])


def show_name(name):
    """A thing's name as a text."""
    return ".".join([str(part) for part in name])


def are_figures(text, most):
    """Whether a text writes a number not below 0, with at most so many figures."""
    if not 1 <= len(text) <= most:
        return False
    # isdigit would let in figures of other scripts.
    if not all(["0" <= sign <= "9" for sign in text]):
        return False
    return text == "0" or text[0] != "0"


def is_key(text):
    """Whether a text writes a key."""
    if text.startswith("-"):
        return text != "-0" and are_figures(text[1:], MOST_FIGURES)
    return are_figures(text, MOST_FIGURES)


def read_thing(text):
    parts = text.split(":")
    if len(parts) != 2 or not is_key(parts[0]) or not is_tag(parts[1]):
        raise NoText("a thing is written as its key, a colon, its tag")
    return (int(parts[0]), parts[1])


def read_row(text):
    if text == NO_THINGS:
        return []
    return [read_thing(part) for part in text.split(", ")]


def read_rows(text):
    """The rows of hands that a text writes; anything else is refused."""
    if not isinstance(text, str):
        raise NoText("this is no text")
    parts = text.split("; ")
    if len(parts) > MOST_HANDS:
        raise NoText(f"there are at most {MOST_HANDS} rows")
    return [read_row(part) for part in parts]
