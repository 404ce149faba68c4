"""The cheapest followings: how many there are, each of them, and what all or none of them have."""

from aheadcells.basics import is_from, spread
from aheadcells.errors import NoFollowing, NoNumber
from aheadcells.followings import Matching, least_sum, loose_places
from aheadcells.programs import makers
from aheadcells.values import check_makers, distances


def cheap_followers(spans):
    """For each maker the ascending list of its followers in the cheapest followings, all told by their places.

    No maker may be loose.
    """
    matching = Matching(spans)
    # Just the pairs whose prices come to their cost can stand in a cheapest following.
    tight = [
        [other for other, price in enumerate(matching.column_prices) if row[other] == own + price]
        for row, own in zip(spans, matching.row_prices)
    ]
    onward = [[(matching.holders[other], 0) for other in row] for row in tight]
    reached = [spread(onward, place) for place in range(len(spans))]
    # Such a pair stands in one if whoever holds the follower now can be made up for, along a ring back to the maker.
    return [
        [other for other in row if place in reached[matching.holders[other]]]
        for place, row in enumerate(tight)
    ]


def led_by(followers):
    """A dict from each follower to the ascending tuple of the makers that can have it."""
    led = {}
    for place, row in enumerate(followers):
        for other in row:
            led[other] = led.get(other, ()) + (place,)
    return led


def groups_of(followers):
    """The places of the makers, parted into ascending lists so that no follower can be had from two of them."""
    led = led_by(followers)
    beside = [[(near, 0) for other in row for near in led[other]] for row in followers]
    groups = []
    grouped = set()
    for start in range(len(followers)):
        if start not in grouped:
            group = sorted(spread(beside, start))
            groups.append(group)
            for place in group:
                grouped.add(place)
    return groups


def without(left, sort):
    """How many followers of each sort are left when one more of this sort is taken."""
    return left[:sort] + (left[sort] - 1,) + left[sort + 1:]


def ways_on(rows, left):
    """For each number of rows that are matched, a dict from what can be left then to the ways to match the others.

    rows has for each maker the sorts of its followers; left is how many there are of each sort.
    """
    ways = [{left: 0}]
    for row in rows:
        behind = {without(before, sort): 0 for before in ways[-1] for sort in row if before[sort] > 0}
        ways.append(behind)
    ways[-1] = {rest: 1 for rest in ways[-1]}
    for place in reversed(range(len(rows))):
        later = ways[place + 1]
        for before in list(ways[place]):
            sums = [before[sort] * later[without(before, sort)] for sort in rows[place] if before[sort] > 0]
            ways[place][before] = sum(sums)
    return ways


class Group:
    """Makers that take their followers one behind another, and in how many ways the others still can.

    Followers that can be had by the same makers are of one sort, as it does not matter which of them are left.
    """

    def __init__(self, followers, group):
        led = led_by([followers[place] for place in group])
        sorts = sorted(set(list(led.values())))
        self.sorts = {other: sorts.index(led[other]) for other in led}
        self.left = tuple([len([other for other in led if led[other] == makers_of]) for makers_of in sorts])
        rows = [sorted({self.sorts[other] for other in followers[place]}) for place in group]
        self.ways = ways_on(rows, self.left)
        self.taken = 0

    def many(self):
        """In how many ways the others can be matched."""
        return self.ways[self.taken][self.left]

    def many_behind(self, other):
        """In how many ways they can be if the next maker takes this follower."""
        return self.ways[self.taken + 1][without(self.left, self.sorts[other])]

    def take(self, other):
        """The next maker takes this follower."""
        self.left = without(self.left, self.sorts[other])
        self.taken += 1


def product_of(numbers):
    """All numbers multiplied together."""
    whole = 1
    for number in numbers:
        whole = whole * number
    return whole


def many_cheapest(program):
    """The number of the cheapest followings."""
    spans = distances(program)
    if len(loose_places(spans)) > 0:
        return 0
    followers = cheap_followers(spans)
    return product_of([Group(followers, group).many() for group in groups_of(followers)])


def numbered_row(followers, number):
    """The list of the followers in the cheapest following of this number, or None if there are no more than this."""
    parts = groups_of(followers)
    groups = {}
    for places in parts:
        group = Group(followers, places)
        for place in places:
            groups[place] = group
    many = product_of([groups[places[0]].many() for places in parts])
    if number >= many:
        return None
    chosen = []
    for place, row in enumerate(followers):
        group = groups[place]
        elsewhere = many // group.many()
        for other in row:
            if other not in chosen:
                many = elsewhere * group.many_behind(other)
                if number < many:
                    break
                number -= many
        group.take(other)
        chosen.append(other)
    return chosen


def cheapest(program, number):
    """The cheapest following with this number, in ascending order."""
    spans = distances(program)
    if not is_from(0, number) or len(loose_places(spans)) > 0:
        raise NoNumber()
    chosen = numbered_row(cheap_followers(spans), number)
    if chosen is None:
        raise NoNumber()
    every = makers(program)
    return tuple([(every[other], row[other]) for row, other in zip(spans, chosen)])


def bound_spans(program):
    """The distances between all makers; NoFollowing is raised if one is loose."""
    spans = distances(program)
    if len(loose_places(spans)) > 0:
        raise NoFollowing()
    return spans


def always(program):
    """The ascending list of the pairs (maker, follower) that stand in all cheapest followings."""
    every = makers(program)
    followers = cheap_followers(bound_spans(program))
    return [(maker, every[row[0]]) for maker, row in zip(every, followers) if len(row) == 1]


def never(program):
    """The ascending list of the pairs (maker, follower) with a distance that stand in no cheapest following."""
    every = makers(program)
    spans = bound_spans(program)
    found = []
    for place, row in enumerate(cheap_followers(spans)):
        lacking = [other for other, span in enumerate(spans[place]) if span is not None and other not in row]
        found.extend([(every[place], every[other]) for other in lacking])
    return found


def least_over(program, one, others):
    """The least sum of a following in which a maker has one of these followers, or None."""
    every = makers(program)
    spans = distances(program)
    place = every.index(one)
    # A follower from which the maker can be reached back can be had: both follow each other, all else themselves.
    held = [
        every.index(other) for other in others
        if spans[place][every.index(other)] is not None and spans[every.index(other)][place] is not None
    ]
    if len(loose_places(spans)) > 0 or len(held) == 0:
        return None
    spans = list(spans)
    spans[place] = [span if other in held else None for other, span in enumerate(spans[place])]
    return least_sum(spans)


def least_with(program, one, other):
    """The least sum of a following in which a maker has this follower, or None."""
    check_makers(program, one, other)
    return least_over(program, one, [other])


def least_without(program, one, other):
    """The least sum of a following in which a maker has another follower than this, or None."""
    check_makers(program, one, other)
    return least_over(program, one, [maker for maker in makers(program) if maker != other])
