"""Short followings of the least sum for which it can be waited, and those that keep a pace."""

from itertools import combinations, permutations

from aheadcells.basics import links_of
from aheadcells.errors import NoFraction, TooMany
from aheadcells.paces import check_times, dearer_ring, is_fraction, links_and_turns
from aheadcells.programs import makers, readers

MOST_MAKERS = 4


def check_few_makers(program):
    """Raise TooMany if the program has more makers than are gone through."""
    if len(makers(program)) > MOST_MAKERS:
        raise TooMany(MOST_MAKERS)


def gains_from(program, times, part, start):
    """A dict from each step to which there is a way to the greatest time on one, less part times its rounds.

    All is told in bottoms of the part. No ring may take more time a round than the part.
    """
    top, bottom = part
    gains = {start: 0}
    changed = True
    while changed:
        changed = False
        for one, other, rounds in links_of(program):
            if one in gains:
                gain = gains[one] + times[one] * bottom - top * rounds
                if other not in gains or gain > gains[other]:
                    gains[other] = gain
                    changed = True
    return gains


def lag_behind(gains, times, part, pairs, follower):
    """The greatest gain on the way to the end of a reading, but for those that the follower itself does, or None."""
    top, bottom = part
    ends = [
        gains[reader] + times[reader] * bottom + top * rounds
        for reader, rounds in pairs if reader in gains and reader != follower
    ]
    return max(ends, default=None)


def all_lags(program, times, part):
    """For each maker that follows, each other maker and each of its followers, the lag from the one to the other."""
    every = makers(program)
    lags = {}
    for start in every:
        gains = gains_from(program, times, part, start)
        for maker in every:
            for follower in every:
                lags[(start, maker, follower)] = lag_behind(gains, times, part, readers(program, maker), follower)
    return lags


def sum_on_rings(lags, every, followers, places):
    """The greatest sum of lags where these makers wait for one another in rings, or 0."""
    sums = [0]
    for behind in permutations(places):
        row = [lags[(followers[one], every[other], followers[other])] for one, other in zip(places, behind)]
        if None not in row:
            sums.append(sum(row))
    return max(sums)


def bounds_for(lags, program, part, followers):
    """For each tuple of places of makers, out of as many as may be, the least that their rounds must come to.

    A ring of the program that waits goes from follower to follower, and takes too much time exactly if the rounds
    of those on it come to less than their lags. Places without a maker have no rounds.
    """
    every = makers(program)
    top = part[0]
    bounds = {}
    for many in range(1, MOST_MAKERS + 1):
        for places in combinations(range(MOST_MAKERS), many):
            bounds[places] = 0
            if places[-1] < len(every):
                bounds[places] = -(-sum_on_rings(lags, every, followers, list(places)) // top)
    for place, maker in enumerate(every):
        longest = max([rounds for _, rounds in readers(program, maker)])
        bounds[(place,)] = max(bounds[(place,)], longest)
    return bounds


def least_behind(bounds, first):
    """The rounds of the last three makers, with the least sum, where the first one has so many rounds."""
    low = {
        places: max(least, bounds[(0,) + places] - first) for places, least in bounds.items() if 0 not in places
    }
    total = max(
        low[(1, 2, 3)],
        low[(1,)] + low[(2,)] + low[(3,)],
        low[(1,)] + low[(2, 3)],
        low[(2,)] + low[(1, 3)],
        low[(3,)] + low[(1, 2)],
        # The three pairs together have each of them twice.
        (low[(1, 2)] + low[(1, 3)] + low[(2, 3)] + 1) // 2,
    )
    # At this total each may have what the other two leave it, and so much is enough for all three of them.
    second = total - max(low[(2, 3)], low[(2,)] + low[(3,)])
    third = total - max(low[(1, 3)], low[(3,)] + second)
    return (second, third, total - second - third)


def least_rounds_over(bounds):
    """The rounds of all four makers with the least sum, no less than the bounds."""
    # With so many rounds the first maker has done its part of every bound.
    most = max([
        least - sum([bounds[(place,)] for place in places[1:]]) for places, least in bounds.items() if places[0] == 0
    ])
    rows = [(first,) + least_behind(bounds, first) for first in range(bounds[(0,)], most + 1)]
    return min(rows, key=sum)


def least_waiting(program, times, part):
    """The least sum of a short following with which no ring takes more time a round than the part, and such a one.

    No ring of the program itself may take more.
    """
    every = list(makers(program))
    lags = all_lags(program, times, part)
    found = []
    for followers in permutations(every):
        row = least_rounds_over(bounds_for(lags, program, part, followers))
        found.append((sum(row), tuple(zip(followers, row))))
    return min(found)


def least_short(program):
    """The least sum of a short following for which waiting does not get stuck, and such a one."""
    check_few_makers(program)
    # No ring through each step at most once takes more turns than there are steps, unless it is over 0 rounds.
    return least_waiting(program, (1,) * program.steps, (program.steps, 1))


def least_paced(program, times, part):
    """The least sum of a short following with which the program that waits keeps a pace, and such a one, or None."""
    check_times(program, times)
    if not is_fraction(part):
        raise NoFraction()
    check_few_makers(program)
    if dearer_ring(links_and_turns(program), times, part) is not None:
        return None
    return least_waiting(program, times, part)
