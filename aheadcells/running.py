"""How many values are wanted at once in one order, so that cells dealt while running are enough."""

from aheadcells.basics import is_between, is_integer, least_to
from aheadcells.errors import NoCrowd, NoNumber, TooMany
from aheadcells.followings import (
    crowd_of,
    first_values,
    follows_over,
    is_crowd,
    least_cells,
    least_sum,
    loose_places,
    lot_of,
)
from aheadcells.orders import order_to, wanted
from aheadcells.programs import makers, readers
from aheadcells.values import distances, widest

MOST_CHOICES = 4000
MOST_NUMBER = 200


def spans_by_reader(program):
    """For each maker a dict from its readers to its distances to all makers if this reader were the only one."""
    every = makers(program)
    leasts = [least_to(program, maker) for maker in every]
    return [
        {pair: [widest((pair,), least) for least in leasts] for pair in readers(program, maker)}
        for maker in every
    ]


def check_choices(rows):
    """Raise TooMany if there are more choices than are gone through; rows are those of spans_by_reader."""
    many = 1
    for row in rows:
        many = many * len(row)
    if many > MOST_CHOICES:
        raise TooMany(MOST_CHOICES)


def all_choices(rows):
    """The list of all choices."""
    choices = [()]
    for row in rows:
        choices = [choice + (pair,) for choice in choices for pair in row]
    return choices


def spans_for(rows, choice):
    """The distances as far as the chosen readers alone tell them."""
    return [row[pair] for row, pair in zip(rows, choice)]


def loosest_choice(rows):
    """The choice that has for each maker a reader without a way back to it, where there is one."""
    choice = []
    for place, row in enumerate(rows):
        loose = [pair for pair in row if row[pair][place] is None]
        choice.append((loose + list(row))[0])
    return tuple(choice)


def dearest_choice(rows, enough):
    """The greatest least sum of a following for a choice, with its distances; at one that is enough it stops.

    No choice may have a loose maker.
    """
    most = None
    dearest = None
    for choice in all_choices(rows):
        spans = spans_for(rows, choice)
        many = least_sum(spans)
        if most is None or many > most:
            most = many
            dearest = spans
        if most >= enough:
            return most, dearest
    return most, dearest


def most_wanted(program):
    """The greatest number of values that are wanted at once, with an order; or why there is no greatest one."""
    rows = spans_by_reader(program)
    check_choices(rows)
    choice = loosest_choice(rows)
    spans = spans_for(rows, choice)
    if len(loose_places(spans)) > 0:
        return ("endless", choice, lot_of(makers(program), spans))
    # No choice needs more cells than all readers together, so at as many none can be dearer.
    number, spans = dearest_choice(rows, least_cells(program))
    # The prices of the matching tell which values the chosen readers can all leave to come in one order.
    return ("most", number, order_to(program, first_values(makers(program), spans, number)))


def order_with(program, many):
    """An order behind which at least so many values are wanted, or None."""
    if not is_between(0, MOST_NUMBER, many):
        raise NoNumber()
    rows = spans_by_reader(program)
    check_choices(rows)
    if len(loose_places(distances(program))) > 0:
        # A loose maker has a reader that need not be done at all.
        return order_to(program, crowd_of(program, many))
    number, spans = dearest_choice(rows, many)
    if number < many:
        return None
    return order_to(program, first_values(makers(program), spans, many))


def is_choice(rows, thing):
    """Whether a thing is a choice."""
    if not isinstance(thing, tuple) or len(thing) != len(rows):
        return False
    for row, pair in zip(rows, thing):
        if not isinstance(pair, tuple) or not all([is_integer(part) for part in pair]) or pair not in row:
            return False
    return True


def is_most_paper(program, number, thing):
    """Whether a thing is a dict from all choices to followings for them, none with a greater sum than this."""
    if not is_integer(number):
        raise NoNumber()
    rows = spans_by_reader(program)
    check_choices(rows)
    if not isinstance(thing, dict) or len(thing) != len(all_choices(rows)):
        return False
    for choice, row in thing.items():
        if not is_choice(rows, choice) or not follows_over(program, spans_for(rows, choice), row):
            return False
        if sum([rounds for _, rounds in row]) > number:
            return False
    return True


def last_reader(program, maker):
    """The reader of a maker whose reading of a value is surely behind all others, or None."""
    pairs = readers(program, maker)
    for reader, rounds in pairs:
        least = least_to(program, reader)
        if all([other in least and rounds - sooner >= least[other] for other, sooner in pairs]):
            return (reader, rounds)
    return None


def last_readers(program):
    """The tuple of the last readers of all makers, None for those without one."""
    return tuple([last_reader(program, maker) for maker in makers(program)])


def all_wanted(program, thing):
    """An order behind which all values of a crowd are wanted, or None."""
    if not is_crowd(program, thing):
        raise NoCrowd()
    # Nothing is done here but what each such order does, so what was read here is read in each of them.
    order = order_to(program, thing)
    found = wanted(program, order)
    if all([value in found for value in thing]):
        return order
    return None
