"""Tables that tell the cell of each value, and strangers who deal cells unseen."""

from math import gcd

from aheadcells.basics import is_between, is_from, is_integer, lined_up, links_of
from aheadcells.errors import NoCell, NoFollowing, NoNumber, NoOrder, NoTable, NotRight, NoValue, TooMany
from aheadcells.followings import crowd_of, is_following, least_cells
from aheadcells.orders import is_lawful, still_read
from aheadcells.programs import is_value, makers, readers
from aheadcells.values import both_wanted, clash, distances

MOST_ROW = 1000
MOST_ASKED = 200
ASKED_OF_LOTS = 100
MOST_NUMBER = 200


def is_row(thing):
    """Whether a thing is a row of a table."""
    return isinstance(thing, tuple) and 1 <= len(thing) <= MOST_ROW and all([is_from(0, spot) for spot in thing])


def is_table(program, thing):
    """Whether a thing is a table for the program, right or not."""
    return isinstance(thing, tuple) and len(thing) == len(makers(program)) and all([is_row(row) for row in thing])


def check_table(program, table):
    """Raise NoTable unless it is a table for the program."""
    if not is_table(program, table):
        raise NoTable()


def spot_in(row, number):
    """The cell of a row's value in this round."""
    return row[(number - 1) % len(row)]


def rows_by_maker(program, table):
    """A dict from each maker to its row."""
    return {maker: row for maker, row in zip(makers(program), table)}


def rings_of(program, thing):
    """The rings of followers of a following, each a list of the places of its makers."""
    every = makers(program)
    rings = []
    passed = set()
    for start in range(len(every)):
        ring = []
        place = start
        while place not in passed:
            passed.add(place)
            ring.append(place)
            place = every.index(thing[place][0])
        if len(ring) > 0:
            rings.append(ring)
    return rings


def table_of(program, thing):
    """A right table for a following, with as many cells as its sum tells, numbered from 0."""
    if not is_following(program, thing):
        raise NoFollowing()
    rings = rings_of(program, thing)
    sizes = [sum([thing[place][1] for place in ring]) for ring in rings]
    if any([size > MOST_ROW for size in sizes]):
        raise TooMany(MOST_ROW)
    rows = [None] * len(thing)
    first = 0
    for ring, size in zip(rings, sizes):
        # A cell goes from each value to that of the follower so many rounds later, and so round the ring for ever.
        later = 0
        for place in ring:
            rows[place] = tuple([first + (number - later) % size for number in range(size)])
            later += thing[place][1]
        first += size
    return tuple(rows)


def cell(program, table, value):
    """The cell of a value."""
    check_table(program, table)
    if not is_value(program, value):
        raise NoValue()
    return spot_in(table[makers(program).index(value[0])], value[1])


def cells_of(program, table):
    """The ascending list of the cells of a table."""
    check_table(program, table)
    return sorted({spot for row in table for spot in row})


def falls_short(number, span):
    """Whether so many rounds are less than a distance, which may be none."""
    return span is None or number < span


def window(many, low, high):
    """The bounds, drawn in so that no two numbers between leave the same rest; one that is None lets every rest."""
    if low is None or high is None:
        return 0, many - 1
    return max(low, high - many + 1), high


def by_rest(row, many):
    """The list of the cells of a row for each rest that their places, divided by so many, leave."""
    return [list(row[rest::many]) for rest in range(many)]


def rows_meet(row, other, low, high):
    """Whether one cell is that of a value of each row, the other's from low to high rounds later."""
    # The rounds of both can have any difference that the lengths, by their common divisor, let.
    many = gcd(len(row), len(other))
    low, high = window(many, low, high)
    here = by_rest(row, many)
    there = by_rest(other, many)
    latest = {}
    # The first time round only makes known what lies in the window at the beginning of the second.
    for number in range(2 * many):
        for spot in there[number % many]:
            latest[spot] = number
        for spot in here[(number - high) % many]:
            if spot in latest and latest[spot] >= number - high + low:
                return True
    return False


def dealt_right(program, table):
    """Whether no two values in one cell of a table clash."""
    spans = distances(program)
    for place, row in enumerate(table):
        span = spans[place][place]
        if rows_meet(row, row, 1, None if span is None else span - 1):
            return False
        for other in range(place):
            low = None if spans[place][other] is None else 1 - spans[place][other]
            high = None if spans[other][place] is None else spans[other][place] - 1
            if rows_meet(table[other], row, low, high):
                return False
    return True


def meeting_at(spans, latest, spots, number):
    """Two clashing values in one cell, the later one of this round, as pairs (place of the maker, round), or None.

    spots has the cells of this round, latest for each cell the last round ahead of it for each maker.
    """
    for place, spot in enumerate(spots):
        for other, former in latest.get(spot, {}).items():
            if falls_short(number - former, spans[other][place]):
                return ((other, former), (place, number))
        for other in range(place):
            both = falls_short(0, spans[other][place]) and falls_short(0, spans[place][other])
            if spots[other] == spot and both:
                return ((other, number), (place, number))
    return None


def first_meeting(program, table):
    """Two values in one cell that clash, as early as can be, for a table that is not right."""
    every = makers(program)
    spans = distances(program)
    latest = {}
    number = 0
    found = None
    while found is None:
        number += 1
        spots = [spot_in(row, number) for row in table]
        found = meeting_at(spans, latest, spots, number)
        for place, spot in enumerate(spots):
            if spot not in latest:
                latest[spot] = {}
            latest[spot][place] = number
    return [(every[place], then) for place, then in found]


def table_clash(program, table):
    """None for a right table, otherwise two values in one cell and an order behind which both are wanted."""
    check_table(program, table)
    if dealt_right(program, table):
        return None
    first, second = first_meeting(program, table)
    return (first, second, clash(program, first, second))


def is_table_clash(program, table, thing):
    """Whether a thing shows that a table is not right, as table_clash does."""
    check_table(program, table)
    if not isinstance(thing, tuple) or len(thing) != 3:
        return False
    first, second, order = thing
    if not is_value(program, first) or not is_value(program, second) or first == second:
        return False
    if cell(program, table, first) != cell(program, table, second):
        return False
    return both_wanted(program, first, second, order)


def asked_crowd(program):
    """The crowd for the values of which a stranger is asked."""
    many = least_cells(program)
    if many is None:
        return crowd_of(program, ASKED_OF_LOTS)
    return crowd_of(program, min(many, MOST_ASKED))


def stranger_clash(program, deal):
    """Two values of a crowd to which a stranger gives one cell, and an order behind which both are wanted, or None."""
    given = []
    for step, number in asked_crowd(program):
        spot = deal(step, number)
        if not is_integer(spot):
            raise NoCell((step, number))
        given.append(((step, number), spot))
    holders = {}
    for value, spot in given:
        if spot in holders:
            return (holders[spot], value, clash(program, holders[spot], value))
        holders[spot] = value
    return None


def check_order(program, order):
    """Raise NoOrder unless it is a lawful order."""
    if not is_lawful(program, order):
        raise NoOrder()


def values_made(program, table, order):
    """For each place of an order the value that is made there and its cell, as a pair, or None."""
    rows = rows_by_maker(program, table)
    counts = [0] * program.steps
    made = []
    for step in order:
        counts[step] += 1
        if step in rows:
            made.append(((step, counts[step]), spot_in(rows[step], counts[step])))
        else:
            made.append(None)
    return made


def run_cells(program, table, order):
    """The list of what was put last into each cell, behind an order, or None."""
    check_table(program, table)
    check_order(program, order)
    held = {}
    for made in values_made(program, table, order):
        if made is not None:
            value, spot = made
            held[spot] = value
    return [held.get(spot) for spot in cells_of(program, table)]


def lost(program, table, order):
    """The first place of an order at which a value is put over one that is still wanted behind it, or None."""
    check_table(program, table)
    check_order(program, order)
    pairs = {maker: readers(program, maker) for maker in makers(program)}
    counts = [0] * program.steps
    held = {}
    for place, made in enumerate(values_made(program, table, order)):
        counts[order[place]] += 1
        if made is not None:
            value, spot = made
            # Ahead of the first loss no cell has a wanted value but the one that was put there last.
            if spot in held and still_read(pairs[held[spot][0]], counts, held[spot][1]):
                return place
            held[spot] = value
    return None


def cell_row(program, table, number, many):
    """The list of the first so many values that are put into a cell of a right table, in any order."""
    check_table(program, table)
    if not dealt_right(program, table):
        raise NotRight()
    if not is_integer(number) or number not in cells_of(program, table):
        raise NoNumber()
    if not is_between(0, MOST_NUMBER, many):
        raise NoNumber()
    rows = rows_by_maker(program, table)
    # Of values of one round in one cell, the links over 0 rounds tell which is ahead.
    line = [step for step in lined_up(program.steps, links_of(program)) if step in rows]
    found = []
    rounds = 0
    while len(found) < many:
        rounds += 1
        found.extend([(step, rounds) for step in line if spot_in(rows[step], rounds) == number])
    return found[:many]
