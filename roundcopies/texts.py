"""Tables and layouts as texts of lines."""

from roundcopies.words import joined_words


def line_of(first, numbers):
    """A line of a word and numbers."""
    return joined_words([first, *numbers]) + "\n"


def table_text(table):
    """The text of a table: its boxes, then each block by its weight and its boxes."""
    blocks = [line_of("block", [weight, *lot]) for lot, weight in table.blocks]
    return line_of("boxes", [table.boxes]) + "".join(blocks)


def layout_text(layout):
    """The text of a layout: the moduli of its sheet, then each kind by its weight and its steps."""
    kinds = [line_of("kind", [weight, *steps]) for steps, weight in layout.kinds]
    return line_of("sheet", layout.sheet.moduli) + "".join(kinds)
