"""Kinds of cells, each for the values of some makers alone."""

from aheadcells.basics import is_between
from aheadcells.errors import NoKinds, NoPrices
from aheadcells.followings import least_among
from aheadcells.programs import makers
from aheadcells.values import distances

LAST_KIND = 9
MOST_PRICE = 99


def is_row_between(many, low, high, thing):
    """Whether a thing is a tuple of so many integers, all from the one to the other."""
    return isinstance(thing, tuple) and len(thing) == many and all([is_between(low, high, part) for part in thing])


def kind_cells(program, kinds):
    """A dict from each kind to the least number of its cells that are enough, None where no number is."""
    if not is_row_between(len(makers(program)), 0, LAST_KIND, kinds):
        raise NoKinds()
    spans = distances(program)
    found = {}
    for kind in sorted(set(kinds)):
        found[kind] = least_among(spans, [place for place, other in enumerate(kinds) if other == kind])
    return found


def kind_price(program, kinds, prices):
    """The least price of enough cells of all kinds, or None."""
    cells = kind_cells(program, kinds)
    if not is_row_between(LAST_KIND + 1, 0, MOST_PRICE, prices):
        raise NoPrices()
    if None in list(cells.values()):
        return None
    return sum([many * prices[kind] for kind, many in cells.items()])
