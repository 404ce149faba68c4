"""A desk that keeps programs under names, and answers lines about them."""

from aheadcells.counting import many_orders
from aheadcells.errors import NoLine, NoName, NothingDone
from aheadcells.followings import is_following, least_cells
from aheadcells.helping import tight
from aheadcells.orders import ahead, wanted
from aheadcells.paces import pace
from aheadcells.reading import numbers_in, read_following, read_order, read_program, read_table
from aheadcells.running import most_wanted
from aheadcells.shorts import least_short
from aheadcells.tables import table_clash
from aheadcells.values import apart
from aheadcells.ways import least_rounds

LETTERS = "abcdefghijklmnopqrstuvwxyz"
LONGEST_NAME = 8
# The first words of the lines that have a text behind the name, a row of numbers, or just so many numbers.
WITH_TEXT = ("program", "order", "followed", "table")
WITH_ROW = ("orders", "pace")
WITH_NUMBERS = {"drop": 0, "cells": 0, "wanted": 0, "short": 0, "tight": 0, "least": 2, "ahead": 2, "clash": 4}


def is_name(word):
    """Whether a word is a name under which a program can be kept."""
    return 1 <= len(word) <= LONGEST_NAME and all([sign in LETTERS for sign in word])


def read_behind(word, behind):
    """What the words behind the name are in a line with this first word: a text or numbers; None for another form."""
    if word in WITH_TEXT:
        text = " ".join(behind)
        return text if len(text) > 0 else None
    if word in WITH_ROW:
        return numbers_in(behind[0].split(",")) if len(behind) == 1 else None
    if word in WITH_NUMBERS and len(behind) == WITH_NUMBERS[word]:
        return numbers_in(behind)
    return None


def read_line(line):
    """The first word of a line about a program, the name, and what stands behind it; NoLine for another form."""
    words = line.split(" ")
    if len(words) < 2 or not is_name(words[1]):
        raise NoLine()
    behind = read_behind(words[0], words[2:])
    if behind is None:
        raise NoLine()
    return (words[0], words[1], behind)


def with_feeds(text):
    """A text with a line feed in the place of each bar."""
    return text.replace("|", "\n")


def or_none(number):
    """A number as it is told."""
    return "none" if number is None else str(number)


def tell_cells(program, _):
    """The least number of cells."""
    return or_none(least_cells(program))


def tell_wanted(program, _):
    """How many values are wanted at once."""
    found = most_wanted(program)
    return found[0] if found[0] == "endless" else str(found[1])


def tell_least(program, numbers):
    """The least rounds from a step to another one."""
    return or_none(least_rounds(program, numbers[0], numbers[1]))


def tell_ahead(program, numbers):
    """By how much a step can be ahead of another one."""
    return or_none(ahead(program, numbers[0], numbers[1]))


def tell_clash(program, numbers):
    """Which of two values is done with when the other one is made."""
    return apart(program, numbers[:2], numbers[2:])


def tell_order(program, text):
    """How many values are wanted behind an order."""
    return str(len(wanted(program, read_order(text))))


def tell_followed(program, text):
    """Whether a text is that of a following."""
    return "yes" if is_following(program, read_following(text)) else "no"


def tell_table(program, text):
    """Whether the table of a text is right."""
    return "right" if table_clash(program, read_table(with_feeds(text))) is None else "wrong"


def tell_orders(program, counts):
    """How many orders have these counts."""
    return str(many_orders(program, counts))


def tell_pace(program, times):
    """The pace with these times."""
    top, bottom = pace(program, times)[0]
    return str(top) + "/" + str(bottom)


def tell_short(program, _):
    """The least number of cells for which can be waited."""
    return str(least_short(program)[0])


def tell_tight(program, _):
    """The links on which the least number of cells rests."""
    links = tight(program)
    if len(links) == 0:
        return "none"
    return " ".join([word + " " + str(number) for word, number in links])


ANSWERS = {
    "cells": tell_cells,
    "wanted": tell_wanted,
    "least": tell_least,
    "ahead": tell_ahead,
    "clash": tell_clash,
    "order": tell_order,
    "followed": tell_followed,
    "table": tell_table,
    "orders": tell_orders,
    "pace": tell_pace,
    "short": tell_short,
    "tight": tell_tight,
}


class Desk:
    """Programs under names, and what was under a name ahead of each line that can be taken back."""

    def __init__(self):
        self.kept = {}
        self.past = []

    def store(self, name, program):
        """Put a program under a name in the place of what is there; None for no program at all."""
        if program is not None:
            self.kept[name] = program
        elif name in self.kept:
            del self.kept[name]

    def keep(self, name, program):
        """Keep a program under a name, or none, so that it can be taken back."""
        self.past.append((name, self.kept.get(name)))
        self.store(name, program)

    def undo(self):
        """Take back the last change that is not taken back."""
        if len(self.past) == 0:
            raise NothingDone()
        name, former = self.past.pop()
        self.store(name, former)

    def tell(self, line):
        """Do a line, and return its answer."""
        if not isinstance(line, str) or "\n" in line:
            raise NoLine()
        if line == "names":
            return "none" if len(self.kept) == 0 else " ".join(sorted(self.kept))
        if line == "undo":
            self.undo()
            return "ok"
        word, name, behind = read_line(line)
        if word == "program":
            self.keep(name, read_program(with_feeds(behind)))
            return "ok"
        if name not in self.kept:
            raise NoName(name)
        if word == "drop":
            self.keep(name, None)
            return "ok"
        answer = ANSWERS[word]
        return answer(self.kept[name], behind)

    def undoable(self):
        """How many lines can be taken back."""
        return len(self.past)
