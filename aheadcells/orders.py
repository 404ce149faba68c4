"""Orders in which the doings of a program may come, and what is wanted behind them."""

from aheadcells.basics import is_between, is_from, is_step, leading_to, least_from, least_to, lined_up, links_of
from aheadcells.errors import NoChoices, NoNumber, NoOrder, NoStep
from aheadcells.programs import makers, readers

MOST_NUMBER = 200


def is_step_row(program, thing):
    """Whether a thing is an order, lawful or not."""
    return isinstance(thing, tuple) and all([is_step(program, step) for step in thing])


def is_lawful(program, thing):
    """Whether a thing is a lawful order."""
    return is_step_row(program, thing) and fault(program, thing) is None


def can_come(rows, counts, step):
    """Whether a step can be done next behind so many doings of each; rows are those of leading_to."""
    number = counts[step] + 1
    return all([counts[one] >= number - rounds for one, rounds in rows[step]])


def fault(program, order):
    """The first place of an order at which a doing stands ahead of one that it is linked behind, or None."""
    if not is_step_row(program, order):
        raise NoOrder()
    rows = leading_to(program.steps, links_of(program))
    counts = [0] * program.steps
    for place, step in enumerate(order):
        if not can_come(rows, counts, step):
            return place
        counts[step] += 1
    return None


def counts_behind(program, order):
    """The list of how often each step is done in a lawful order."""
    if not is_lawful(program, order):
        raise NoOrder()
    counts = [0] * program.steps
    for step in order:
        counts[step] += 1
    return counts


def free_steps(rows, counts):
    """The ascending list of the steps that can be done next; rows are those of leading_to."""
    return [step for step in range(len(counts)) if can_come(rows, counts, step)]


def can_be_done(program, order):
    """The ascending tuple of the steps that can be done next behind a lawful order."""
    counts = counts_behind(program, order)
    return tuple(free_steps(leading_to(program.steps, links_of(program)), counts))


def still_read(pairs, counts, number):
    """Whether one of the readers has not yet read the value of this round, behind so many doings of each step."""
    return any([counts[reader] < number + rounds for reader, rounds in pairs])


def wanted(program, order):
    """The ascending list of the values that were made and have a reading to come."""
    counts = counts_behind(program, order)
    found = []
    for maker in makers(program):
        # Values up to this round were read by all; below 1 there are none.
        over = min([counts[reader] - rounds for reader, rounds in readers(program, maker)])
        found.extend([(maker, number) for number in range(max(0, over) + 1, counts[maker] + 1)])
    return found


def drawn_order(program, choices):
    """The order of as many steps as there are choices, each of which picks one that can be done."""
    if not isinstance(choices, (list, tuple)) or not all([is_from(0, choice) for choice in choices]):
        raise NoChoices()
    rows = leading_to(program.steps, links_of(program))
    counts = [0] * program.steps
    order = []
    for choice in choices:
        free = free_steps(rows, counts)
        step = free[choice % len(free)]
        counts[step] += 1
        order.append(step)
    return tuple(order)


def counts_below(program, doings):
    """How often each step must be done so that these doings can stand in an order, and no oftener."""
    latest = {}
    for one, number in doings:
        latest[one] = max(number, latest.get(one, number))
    counts = [0] * program.steps
    for one, number in latest.items():
        for step, rounds in least_to(program, one).items():
            counts[step] = max(counts[step], number - rounds)
    return counts


def order_of(program, counts):
    """A lawful order in which each step is done so often, where counts leave out nothing that must be ahead."""
    # Round by round, and in a round along the links over 0 rounds, no doing comes ahead of one it is linked behind.
    line = lined_up(program.steps, links_of(program))
    order = []
    for number in range(1, max(counts) + 1):
        order.extend([step for step in line if counts[step] >= number])
    return tuple(order)


def order_to(program, doings):
    """A lawful order in which these doings stand, and besides only what is surely ahead of one of them."""
    return order_of(program, counts_below(program, doings))


def ahead(program, one, other):
    """The greatest number by which a step can be done more often than another one, or None."""
    if not is_step(program, one) or not is_step(program, other):
        raise NoStep()
    # A doing waits just for those of the other step that are the least rounds ahead of it, and none ahead of round 1.
    return least_from(program, other).get(one)


def ahead_order(program, one, other, number):
    """A lawful order behind which the one is just so many times more often done than the other, or None."""
    most = ahead(program, one, other)
    if not is_between(0, MOST_NUMBER, number):
        raise NoNumber()
    if most is not None and number > most:
        return None
    return order_to(program, ((one, number),))
