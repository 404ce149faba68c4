"""Ways along links, and what is surely done behind what."""

from aheadcells.basics import (
    is_between,
    is_doing,
    is_from,
    is_step,
    leading_from,
    least_from,
    least_to,
    spread,
    told_links,
)
from aheadcells.errors import NoDoing, NoNumber, NoStep
from aheadcells.orders import order_to


def check_steps(program, one, other):
    """Raise NoStep unless both are steps."""
    if not is_step(program, one) or not is_step(program, other):
        raise NoStep()


def check_doings(program, first, second):
    """Raise NoDoing unless both are doings."""
    if not is_doing(program, first) or not is_doing(program, second):
        raise NoDoing()


def least_rounds(program, one, other):
    """The least sum of rounds of a way from a step to another one, or None."""
    check_steps(program, one, other)
    return least_from(program, one).get(other)


def least_way(program, one, other):
    """A way of the least rounds from a step to another one, or None."""
    check_steps(program, one, other)
    least = least_to(program, other)
    if one not in least:
        return None
    # No ring sums to 0 rounds, so going on along such links alone must come to the end.
    onward = {}
    for told, (start, end, rounds) in told_links(program.needs, program.befores):
        if end in least and least[start] == least[end] + rounds:
            onward[start] = (told, end)
    way = []
    step = one
    while step != other:
        told, step = onward[step]
        way.append(told)
    return tuple(way)


def link_told(program, thing):
    """The triple of a link, or of a turn, that is told by its word and number; None for another thing."""
    if not (isinstance(thing, tuple) and len(thing) == 2 and isinstance(thing[0], str)):
        return None
    word, number = thing
    if word == "turn" and is_step(program, number):
        return (number, number, 1)
    if word == "need" and is_between(0, len(program.needs) - 1, number):
        return program.needs[number]
    if word == "before" and is_between(0, len(program.befores) - 1, number):
        return program.befores[number]
    return None


def is_way(program, one, other, rounds, thing):
    """Whether a thing is a way from a step to another one over just so many rounds."""
    check_steps(program, one, other)
    if not is_from(0, rounds):
        raise NoNumber()
    if not isinstance(thing, tuple):
        return False
    step = one
    total = 0
    for told in thing:
        link = link_told(program, told)
        if link is None or link[0] != step:
            return False
        step = link[1]
        total += link[2]
    return step == other and total == rounds


def surely(program, first, second):
    """Whether the second doing stands behind the first one in every order in which it stands."""
    check_doings(program, first, second)
    least = least_from(program, first[0]).get(second[0])
    return first != second and least is not None and second[1] - first[1] >= least


def loose_order(program, first, second):
    """A lawful order with the second doing and not the first one ahead of it, or None."""
    if surely(program, first, second) or first == second:
        return None
    return order_to(program, (second,))


def needless(program):
    """The ascending list of the numbers of the befores that change no least rounds, left out from the last one on."""
    kept = program.befores
    found = []
    for number in reversed(range(len(program.befores))):
        one, other, rounds = program.befores[number]
        rest = kept[:number] + kept[number + 1:]
        # Whoever went along this before goes the other way round instead, if that is no longer.
        around = spread(leading_from(program.steps, program.needs + rest), one).get(other)
        if around is not None and around <= rounds:
            kept = rest
            found.append(number)
    return found[::-1]
