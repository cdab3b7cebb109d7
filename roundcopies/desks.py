"""A desk that leads a store by lines."""

from roundcopies.errors import Hidden, IsDown, IsUp, NoBlock, NoBox, NoCopy, NoLine, NoLines, Spent
from roundcopies.stores import Store
from roundcopies.words import is_letters, is_number_word, joined_words

# What stands behind the first word of a line.
FORMS = {
    "put": ("number", "word"),
    "look": ("number",),
    "lose": ("number",),
    "back": ("number",),
    "empty": ("number",),
    "mend": ("number", "number"),
    "round": (),
    "stale": (),
    "hidden": (),
    "deal": ("number",),
    "served": (),
    "least": (),
    "moved": (),
}
DEEDS = ("put", "lose", "back", "empty", "mend", "round")


def thing_of(form, word):
    """What a word of a form tells."""
    if form == "number":
        if not is_number_word(word):
            raise NoLine()
        return int(word)
    if not is_letters(word):
        raise NoLine()
    return word


def things_of(line):
    """The first word of a line, and a list of what stands behind it."""
    if not isinstance(line, str):
        raise NoLine()
    words = line.split(" ")
    forms = FORMS.get(words[0], None)
    if forms is None or len(forms) != len(words) - 1:
        raise NoLine()
    return words[0], [thing_of(form, word) for form, word in zip(forms, words[1:])]


def listed(things):
    """Things with blanks between, "none" if there is none."""
    return joined_words(things) if things else "none"


class Desk:
    """A store that is led by lines."""

    def __init__(self, table):
        self.store = Store(table)

    def tell(self, line):
        """Do a line, and return what it tells."""
        first, things = things_of(line)
        if first in DEEDS:
            self.do(first, things)
            return "ok"
        return self.answer(first, things)

    def do(self, first, things):
        """Do what a line asks for."""
        if first == "put":
            self.store.put(things[0], things[1])
        elif first == "lose":
            self.store.lose(things[0])
        elif first == "back":
            self.store.back(things[0])
        elif first == "empty":
            self.store.empty(things[0])
        elif first == "mend":
            self.store.mend(things[0], things[1])
        else:
            self.store.new_round()

    def answer(self, first, things):
        """What a line that asks for something tells."""
        if first == "look":
            value = self.store.look(things[0])
            return "-" if value is None else value
        if first == "stale":
            return listed([f"{block}:{box}" for block, box in self.store.stale()])
        if first == "hidden":
            return listed(self.store.hidden())
        if first == "deal":
            self.store.check_block(things[0])
            return listed(self.store.deal().get(things[0], ()))
        if first == "served":
            return listed(self.store.served())
        return str(self.store.least() if first == "least" else self.store.last_moved())


def told_or_error(desk, line):
    """What a desk tells to a line, or the name of the error's class in parentheses."""
    try:
        return desk.tell(line)
    except NoLine:
        return "(NoLine)"
    except NoBlock:
        return "(NoBlock)"
    except Hidden:
        return "(Hidden)"
    except Spent:
        return "(Spent)"
    except NoBox:
        return "(NoBox)"
    except IsDown:
        return "(IsDown)"
    except IsUp:
        return "(IsUp)"
    except NoCopy:
        return "(NoCopy)"


def tale(table, lines):
    """The list of what a new desk tells to lines."""
    desk = Desk(table)
    if not isinstance(lines, (list, tuple)) or not all([isinstance(line, str) for line in lines]):
        raise NoLines()
    return [told_or_error(desk, line) for line in lines]
