"""Tables and layouts read back from their texts."""

from roundcopies.errors import BadText
from roundcopies.layouts import Layout
from roundcopies.sheets import Sheet
from roundcopies.tables import Table
from roundcopies.words import is_number_word


def numbers_behind(first, line):
    """The numbers of a line that begins with this word, or () if it has not this form."""
    words = line.split(" ")
    if words[0] != first or not all([is_number_word(word) for word in words[1:]]):
        return ()
    if first == "boxes" and len(words) > 2:
        return ()
    return tuple([int(word) for word in words[1:]])


def rows_of(text, head, other):
    """The numbers of each line of a text, by the words that its first line and the others begin with."""
    if not isinstance(text, str):
        raise BadText(0)
    parts = text.split("\n")
    rows = []
    for at, line in enumerate(parts[:-1]):
        numbers = numbers_behind(other if rows else head, line)
        if not numbers:
            raise BadText(at + 1)
        rows.append(numbers)
    if parts[-1] != "" or not rows:
        raise BadText(len(parts))
    return rows


def weighed(rows):
    """Pairs of a lot and a weight, for rows of a weight and the numbers of a lot."""
    return tuple([(row[1:], row[0]) for row in rows])


def read_table(text):
    """The table that a text tells."""
    rows = rows_of(text, "boxes", "block")
    return Table(rows[0][0], weighed(rows[1:]))


def read_layout(text):
    """The layout that a text tells."""
    rows = rows_of(text, "sheet", "kind")
    return Layout(Sheet(rows[0]), weighed(rows[1:]))
