"""Followings of least sum, the crowds that show that none is less, and lots where there is no following."""

from aheadcells.basics import is_between, is_integer
from aheadcells.errors import NoNumber
from aheadcells.programs import is_maker, is_value, makers
from aheadcells.values import distances

MOST_CROWD = 200


class Matching:
    """Rows and columns of a square of costs, one to one, at the least sum; a cost of None cannot be taken.

    There has to be some way to match them all. The prices of a row and of a column never come to more than
    their cost, and to just as much where they are matched: so they sum to what is least.
    """

    def __init__(self, costs):
        self.costs = costs
        self.holders = [None] * len(costs)
        self.row_prices = [0] * len(costs)
        self.column_prices = [0] * len(costs)
        for row in range(len(costs)):
            self.seat(row)

    def seat(self, start):
        """Match one more row; those that are matched move along the cheapest path to a column that is left."""
        lengths, came = self.search(start)
        column = list(lengths)[-1]
        whole = lengths[column]
        self.row_prices[start] += whole
        for passed in list(lengths)[:-1]:
            self.row_prices[self.holders[passed]] += whole - lengths[passed]
            self.column_prices[passed] -= whole - lengths[passed]
        while came[column] is not None:
            self.holders[column] = self.holders[came[column]]
            column = came[column]
        self.holders[column] = start

    def search(self, start):
        """The columns nearest to a row, up to the first that is left, with their lengths, and whence they are reached.

        Both are dicts; the lengths stand in the order in which they grow.
        """
        lengths = {}
        came = {}
        reach = {}
        row, column, length = start, None, 0
        while row is not None:
            for other, cost in enumerate(self.costs[row]):
                if cost is not None and other not in lengths:
                    more = length + cost - self.row_prices[row] - self.column_prices[other]
                    if other not in reach or more < reach[other]:
                        reach[other] = more
                        came[other] = column
            column = min(list(reach), key=lambda place: reach[place])
            length = reach.pop(column)
            lengths[column] = length
            row = self.holders[column]
        return lengths, came


def loose_places(spans):
    """The places of the makers without a distance to themselves; there is a following exactly if there are none."""
    return [place for place, row in enumerate(spans) if row[place] is None]


def least_sum(spans):
    """The least sum of distances that match all makers, where none is loose."""
    matching = Matching(spans)
    return sum(matching.row_prices) + sum(matching.column_prices)


def least_or_none(spans):
    """The least sum of distances that match all makers, or None."""
    if len(loose_places(spans)) > 0:
        return None
    return least_sum(spans)


def least_among(spans, places):
    """The least sum of distances that match the makers at these places among themselves, or None."""
    return least_or_none([[spans[one][other] for other in places] for one in places])


def least_cells(program):
    """The least sum of a following, or None."""
    return least_or_none(distances(program))


def following(program):
    """A following of the least sum whose rounds are the distances, or None."""
    spans = distances(program)
    if len(loose_places(spans)) > 0:
        return None
    every = makers(program)
    pairs = [None] * len(every)
    for column, row in enumerate(Matching(spans).holders):
        pairs[row] = (every[column], spans[row][column])
    return tuple(pairs)


def first_values(every, spans, many):
    """The first so many values of a great crowd, where there is no lot and no lesser following."""
    # A distance above the number may be taken for it: who is matched at this cost has enough with it alone.
    matching = Matching([[many if span is None else min(span, many) for span in row] for row in spans])
    lows = [-price for price in matching.row_prices]
    found = []
    # A maker has the values behind the one price up to the other. These are never the wrong way about at the
    # least sum, as a distance is never more than two on the way.
    for maker, low, high in zip(every, lows, matching.column_prices):
        # No more are made than are asked for, as the prices may be great.
        many_here = min(high - low, many - len(found))
        first = low - min(lows) + 1
        found.extend([(maker, number) for number in range(first, first + many_here)])
    return found


def crowd(program):
    """A crowd of as many values as least_cells tells, or None."""
    many = least_cells(program)
    if many is None:
        return None
    return first_values(makers(program), distances(program), many)


def lot_of(every, spans):
    """A lot of the makers, where one of them is loose."""
    loose = loose_places(spans)
    # A loose maker has a distance to all makers to which these have one, but none to itself.
    behind = [place for place, span in enumerate(spans[loose[0]]) if span is not None]
    both = sorted(behind + loose[:1])
    return (tuple([every[place] for place in both]), tuple([every[place] for place in behind]))


def lot(program):
    """A lot, or None if there is a following."""
    spans = distances(program)
    if len(loose_places(spans)) == 0:
        return None
    return lot_of(makers(program), spans)


def crowd_of(program, many):
    """A crowd of so many values."""
    if not is_between(0, MOST_CROWD, many):
        raise NoNumber()
    every = makers(program)
    spans = distances(program)
    loose = loose_places(spans)
    if len(loose) > 0:
        return [(every[loose[0]], number) for number in range(1, many + 1)]
    if many > least_sum(spans):
        raise NoNumber()
    return first_values(every, spans, many)


def follows_over(program, spans, thing):
    """Whether a thing has a pair (follower, rounds) for each maker, as a following, over no less than these spans."""
    every = makers(program)
    if not isinstance(thing, tuple) or len(thing) != len(every):
        return False
    for pair in thing:
        if not (isinstance(pair, tuple) and len(pair) == 2 and is_maker(program, pair[0]) and is_integer(pair[1])):
            return False
    if tuple(sorted([pair[0] for pair in thing])) != every:
        return False
    for row, (follower, rounds) in zip(spans, thing):
        span = row[every.index(follower)]
        if span is None or rounds < span:
            return False
    return True


def is_following(program, thing):
    """Whether a thing is a following."""
    return follows_over(program, distances(program), thing)


def is_crowd(program, thing):
    """Whether a thing is a list of unlike values of which each two clash."""
    if not isinstance(thing, list) or not all([is_value(program, value) for value in thing]):
        return False
    if len(set(thing)) != len(thing):
        return False
    lows = {}
    highs = {}
    for maker, number in thing:
        lows[maker] = min(number, lows.get(maker, number))
        highs[maker] = max(number, highs.get(maker, number))
    every = makers(program)
    # Of two makers the first value of the one and the last value of the other are the likeliest not to clash.
    for one, row in zip(every, distances(program)):
        for other, span in zip(every, row):
            if one in lows and other in highs and span is not None and highs[other] - lows[one] >= span:
                return False
    return True


def is_maker_row(program, thing):
    """Whether a thing is an ascending tuple of makers."""
    if not isinstance(thing, tuple) or not all([is_maker(program, maker) for maker in thing]):
        return False
    return thing == tuple(sorted(set(thing)))


def is_lot(program, thing):
    """Whether a thing is a lot."""
    if not isinstance(thing, tuple) or len(thing) != 2:
        return False
    if not is_maker_row(program, thing[0]) or not is_maker_row(program, thing[1]) or len(thing[0]) <= len(thing[1]):
        return False
    every = makers(program)
    for one, row in zip(every, distances(program)):
        for other, span in zip(every, row):
            if one in thing[0] and span is not None and other not in thing[1]:
                return False
    return True
