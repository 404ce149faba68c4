"""Texts of programs, orders, followings and tables."""


def spaced(words):
    """Words with one blank between two, a dash where there are none."""
    if len(words) == 0:
        return "-"
    return " ".join(words)


def line_of(word, numbers):
    """A word with numbers behind it, closed by a line feed."""
    return " ".join([word] + [str(number) for number in numbers]) + "\n"


def program_text(program):
    """The text of a program: its steps, then each need, then each before."""
    lines = [line_of("steps", [program.steps])]
    lines.extend([line_of("need", link) for link in program.needs])
    lines.extend([line_of("before", link) for link in program.befores])
    return "".join(lines)


def order_text(order):
    """The text of an order: the numbers of its steps."""
    return spaced([str(step) for step in order])


def following_text(thing):
    """The text of pairs as a following has them: a word for each."""
    return spaced([str(follower) + ":" + str(rounds) for follower, rounds in thing])


def table_text(table):
    """The text of a table: a line for each row."""
    return "".join([line_of("row", row) for row in table])
