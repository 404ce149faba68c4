"""Texts that are read back: programs, orders, followings and tables."""

from aheadcells.errors import BadText
from aheadcells.programs import Program

FIGURES = "0123456789"
MOST_FIGURES = 9
# How many numbers stand behind the first word of a line of a program's text.
FORMS = {"steps": 1, "need": 3, "before": 3}
# The first words of the lines that can stand behind a line with this one, or at the beginning.
BEHIND = {"": ("steps",), "steps": ("need", "before"), "need": ("need", "before"), "before": ("before",)}


def is_number(word):
    """Whether a word is a decimal number without a sign and needless zeros, of not too many figures."""
    if not 1 <= len(word) <= MOST_FIGURES or not all([sign in FIGURES for sign in word]):
        return False
    return word == "0" or word[0] != "0"


def numbers_in(words):
    """The tuple of the numbers that these words are, or None if one of them is none."""
    if not all([is_number(word) for word in words]):
        return None
    return tuple([int(word) for word in words])


def check_text(text):
    """Raise BadText(0) for what is no string."""
    if not isinstance(text, str):
        raise BadText(0)


def program_line(line):
    """The first word of a line of a program's text and its numbers, or None for a line of another form."""
    words = line.split(" ")
    numbers = numbers_in(words[1:])
    if numbers is None or words[0] not in FORMS or len(numbers) != FORMS[words[0]]:
        return None
    return (words[0], numbers)


def read_program(text):
    """The program of a text."""
    check_text(text)
    lines = text.split("\n")
    rest = lines.pop()
    rows = {kind: [] for kind in FORMS}
    word = ""
    for place, line in enumerate(lines):
        told = program_line(line)
        if told is None or told[0] not in BEHIND[word]:
            raise BadText(place + 1)
        word, numbers = told
        rows[word].append(numbers)
    if word == "" or rest != "":
        raise BadText(len(lines) + 1)
    return Program(rows["steps"][0][0], tuple(rows["need"]), tuple(rows["before"]))


def read_words(text):
    """The list of the words of a text of one line; none for a dash, which tells that there are none."""
    check_text(text)
    if text == "-":
        return []
    return text.split(" ")


def read_order(text):
    """The order of a text."""
    order = numbers_in(read_words(text))
    if order is None:
        raise BadText(1)
    return order


def read_following(text):
    """The tuple of the pairs of a text of a following."""
    found = []
    for word in read_words(text):
        pair = numbers_in(word.split(":"))
        if pair is None or len(pair) != 2:
            raise BadText(1)
        found.append(pair)
    return tuple(found)


def read_table(text):
    """The tuple of the rows of a text of a table."""
    check_text(text)
    lines = text.split("\n")
    rest = lines.pop()
    rows = []
    for place, line in enumerate(lines):
        words = line.split(" ")
        row = numbers_in(words[1:])
        if words[0] != "row" or row is None or len(row) == 0:
            raise BadText(place + 1)
        rows.append(row)
    if rest != "":
        raise BadText(len(lines) + 1)
    return tuple(rows)
