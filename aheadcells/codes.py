"""Code made for a table: which cells each step reads and writes, round by round, and what comes of it."""

from math import lcm

from aheadcells.basics import is_integer, leading_to
from aheadcells.errors import TooMany
from aheadcells.orders import counts_behind, order_to
from aheadcells.programs import readers
from aheadcells.tables import check_order, check_table, rows_by_maker, spot_in, table_clash

MOST_RHYTHM = 1000


def rhythm_of(program, table):
    """The number of rounds behind which all rows of a table begin anew together."""
    check_table(program, table)
    rhythm = 1
    for row in table:
        rhythm = lcm(rhythm, len(row))
        if rhythm > MOST_RHYTHM:
            raise TooMany(MOST_RHYTHM)
    return rhythm


def code_of(program, table):
    """The code for a table."""
    rhythm = rhythm_of(program, table)
    rows = rows_by_maker(program, table)
    code = []
    for step, needs in enumerate(leading_to(program.steps, program.needs)):
        told = []
        for number in range(1, rhythm + 1):
            reads = tuple([spot_in(rows[one], number - rounds) for one, rounds in needs])
            told.append((reads, spot_in(rows[step], number) if step in rows else None))
        code.append(tuple(told))
    return tuple(code)


def is_like(code, thing):
    """Whether a thing is the same as code or a part of it, down to the kinds of its parts."""
    if isinstance(code, tuple):
        if not isinstance(thing, tuple) or len(thing) != len(code):
            return False
        return all([is_like(part, other) for part, other in zip(code, thing)])
    if code is None:
        return thing is None
    return is_integer(thing) and thing == code


def is_code(program, table, thing):
    """Whether a thing is the code for a table."""
    return is_like(code_of(program, table), thing)


def reads_along(program, order):
    """For each place of an order its doing, and a list with the value, or None, of each need that leads to it."""
    needs = leading_to(program.steps, program.needs)
    counts = [0] * program.steps
    found = []
    for step in order:
        counts[step] += 1
        number = counts[step]
        values = [(one, number - rounds) if number > rounds else None for one, rounds in needs[step]]
        found.append(((step, number), values))
    return found


def true_reads(program, order):
    """The list of what is to be read at each place of an order."""
    check_order(program, order)
    return [tuple(values) for _, values in reads_along(program, order)]


def code_reads(program, table, order):
    """The list of what the code reads at each place of an order."""
    rhythm_of(program, table)
    check_order(program, order)
    rows = rows_by_maker(program, table)
    held = {}
    found = []
    for doing, values in reads_along(program, order):
        found.append(tuple([
            None if value is None else held.get(spot_in(rows[value[0]], value[1])) for value in values
        ]))
        if doing[0] in rows:
            held[spot_in(rows[doing[0]], doing[1])] = doing
    return found


def place_of(order, doing):
    """The place of a doing in an order in which it stands."""
    step, number = doing
    return [place for place, other in enumerate(order) if other == step][number - 1]


def with_doing(program, order, doing):
    """A lawful order that goes on with what is surely ahead of a doing, and with this one at its end."""
    left = counts_behind(program, order)
    more = []
    for step in order_to(program, (doing,)):
        # What is done already stands there a first time.
        if left[step] > 0:
            left[step] -= 1
        else:
            more.append(step)
    return order + tuple(more)


def code_break(program, table):
    """None for a right table, otherwise an order at whose last place the code does not read what it should."""
    rhythm_of(program, table)
    found = table_clash(program, table)
    if found is None:
        return None
    first, second, order = found
    # Of two values in one cell that are both wanted, that which was made ahead is written over.
    lost = first if place_of(order, first) < place_of(order, second) else second
    counts = counts_behind(program, order)
    to_come = [
        (reader, lost[1] + rounds) for reader, rounds in readers(program, lost[0])
        if counts[reader] < lost[1] + rounds
    ]
    return with_doing(program, order, to_come[0])
