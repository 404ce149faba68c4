"""Two values: how far they are apart, or how they come to be wanted at once."""

from aheadcells.basics import least_to
from aheadcells.errors import NoMaker, NoValue
from aheadcells.orders import is_lawful, order_to, wanted
from aheadcells.programs import is_maker, is_value, makers, readers


def widest(pairs, least):
    """The greatest sum of the rounds of a reader and the least rounds from it on; None if one of these is none."""
    sums = []
    for reader, rounds in pairs:
        if reader not in least:
            return None
        sums.append(rounds + least[reader])
    return max(sums)


def check_makers(program, one, other):
    """Raise NoMaker unless both are makers."""
    if not is_maker(program, one) or not is_maker(program, other):
        raise NoMaker()


def distance(program, one, other):
    """The distance from a maker to another one, or None."""
    check_makers(program, one, other)
    return widest(readers(program, one), least_to(program, other))


def distances(program):
    """The tuple with a tuple for each maker of its distances to all makers."""
    every = makers(program)
    leasts = [least_to(program, maker) for maker in every]
    rows = [readers(program, maker) for maker in every]
    return tuple([tuple([widest(pairs, least) for least in leasts]) for pairs in rows])


def check_values(program, first, second):
    """Raise NoValue unless both are values, and unlike."""
    if not is_value(program, first) or not is_value(program, second) or first == second:
        raise NoValue()


def apart(program, first, second):
    """Which of two values is surely read to the end by the time the other one is made, or "clash"."""
    check_values(program, first, second)
    ahead = distance(program, first[0], second[0])
    if ahead is not None and second[1] - first[1] >= ahead:
        return "first"
    behind = distance(program, second[0], first[0])
    if behind is not None and first[1] - second[1] >= behind:
        return "second"
    return "clash"


def clash(program, first, second):
    """A lawful order behind which both values are wanted, or None."""
    if apart(program, first, second) != "clash":
        return None
    # Neither value has all of its readings surely ahead of the other one, so what both take leaves some to come.
    return order_to(program, (first, second))


def both_wanted(program, first, second, thing):
    """Whether a thing is a lawful order behind which both values are wanted."""
    if not is_lawful(program, thing):
        return False
    found = wanted(program, thing)
    return first in found and second in found


def is_clash(program, first, second, thing):
    """Whether a thing is an order behind which two unlike values are wanted."""
    check_values(program, first, second)
    return both_wanted(program, first, second, thing)
