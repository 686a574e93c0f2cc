"""Shapes and tables as texts, and back."""

from threeshapes.errors import BadText
from threeshapes.numbers import is_whole

FIGURES = "0123456789"
MOST_FIGURES = 400
MOST_PARTS = 4
MOST_ROWS = 8


def shape_text(shape):
    """Return the parts, separated by one blank; nothing is checked."""
    return _text_of_numbers(shape)


def table_text(table):
    """Return the rows, separated by "; ", with blanks between their numbers; nothing is checked."""
    return "; ".join([_text_of_numbers(row) for row in table])


def _text_of_numbers(numbers):
    return " ".join([str(number) for number in numbers])


def read_shape(text):
    """Return the shape that shape_text writes so, or raise BadText with the index of a word."""
    if not isinstance(text, str):
        raise BadText(0)
    words = text.split(" ")
    parts = []
    for at, word in enumerate(words[:MOST_PARTS]):
        number = _number_of_word(word)
        highest = parts[-1] if parts else None
        if not is_whole(number, 0, highest):
            raise BadText(at)
        parts.append(number)
    if len(words) > MOST_PARTS:
        raise BadText(MOST_PARTS)
    return tuple(parts)


def read_table(text):
    """Return the table that table_text writes so, or raise BadText with the index of a row."""
    if not isinstance(text, str):
        raise BadText(0)
    lines = text.split("; ")
    rows = []
    for at, line in enumerate(lines[:MOST_ROWS]):
        words = line.split(" ")
        wide = len(rows[0]) if rows else len(words)
        if len(words) > MOST_ROWS or len(words) != wide:
            raise BadText(at)
        row = tuple([_number_of_word(word) for word in words])
        if not all([is_whole(number) for number in row]):
            raise BadText(at)
        rows.append(row)
    if len(lines) > MOST_ROWS:
        raise BadText(MOST_ROWS)
    return tuple(rows)


def _number_of_word(word):
    """Return the number that is written so, or None if this is no number."""
    figures = word[1:] if word.startswith("-") else word
    if not 1 <= len(figures) <= MOST_FIGURES:
        return None
    if not all([sign in FIGURES for sign in figures]):
        return None
    # A nought ahead is refused, and "-0" with it.
    if figures[0] == "0" and word != "0":
        return None
    return int(word)
