"""The words of the document, done slowly and without the package, so that the tests can hold it against them."""

from fractions import Fraction
from itertools import permutations, product


def links_of(program):
    return list(program.needs) + list(program.befores)


def doings_of(order):
    """The doing at each place of an order."""
    counts = {}
    found = []
    for step in order:
        counts[step] = counts.get(step, 0) + 1
        found.append((step, counts[step]))
    return found


def is_lawful(program, order):
    """Whether each doing stands behind those that the links tell (2.1)."""
    stood = set()
    for step, number in doings_of(order):
        for one, other, rounds in links_of(program):
            if other == step and number - rounds >= 1 and (one, number - rounds) not in stood:
                return False
        stood.add((step, number))
    return True


def first_fault(program, order):
    """The first place at which an order is not lawful, or None."""
    for place in range(len(order)):
        if not is_lawful(program, order[:place + 1]):
            return place
    return None


def next_steps(program, order):
    return tuple(step for step in range(program.steps) if is_lawful(program, tuple(order) + (step,)))


def wanted_values(program, order):
    """The values that were made and have a reading that was not done yet (2.2)."""
    done = set(doings_of(order))
    found = set()
    for step, number in done:
        for one, other, rounds in program.needs:
            if one == step and (other, number + rounds) not in done:
                found.add((step, number))
    return sorted(found)


def states(program, top):
    """A dict from how often each step can have been done, none more often than top, to an order that does it."""
    start = (0,) * program.steps
    found = {start: ()}
    queue = [start]
    for counts in queue:
        for step in range(program.steps):
            number = counts[step] + 1
            free = all(
                counts[one] >= number - rounds
                for one, other, rounds in links_of(program)
                if other == step and number - rounds >= 1
            )
            after = counts[:step] + (number,) + counts[step + 1:]
            if free and number <= top and after not in found:
                found[after] = found[counts] + (step,)
                queue.append(after)
    return found


def wanted_in(program, counts):
    """The values that are wanted when each step was done so often."""
    return {
        (one, number)
        for one, other, rounds in program.needs
        for number in range(1, counts[one] + 1)
        if counts[other] < number + rounds
    }


def clashing(program, top):
    """The set of all pairs of unlike values, of rounds up to top, that are wanted at once behind some order."""
    found = set()
    for counts in states(program, top):
        both = sorted(wanted_in(program, counts))
        found.update((first, second) for first in both for second in both if first != second)
    return found


def least_sums(program):
    """The least sum of rounds of a way for each two steps between which there is one."""
    least = {(step, step): 0 for step in range(program.steps)}
    for one, other, rounds in links_of(program):
        least[one, other] = min(rounds, least.get((one, other), rounds))
    for by in range(program.steps):
        for one in range(program.steps):
            for other in range(program.steps):
                if (one, by) in least and (by, other) in least:
                    both = least[one, by] + least[by, other]
                    least[one, other] = min(both, least.get((one, other), both))
    return least


def maker_row(program):
    return sorted({one for one, other, rounds in program.needs})


def distance_of(program, one, other, least=None):
    """The distance of 4.1, or None; least are the least sums, if they are known."""
    least = least or least_sums(program)
    sums = [least.get((reader, other)) for maker, reader, rounds in program.needs if maker == one]
    if None in sums:
        return None
    return max(
        rounds + least[reader, other] for maker, reader, rounds in program.needs if maker == one
    )


def distance_dict(program):
    every = maker_row(program)
    least = least_sums(program)
    return {(one, other): distance_of(program, one, other, least) for one in every for other in every}


def least_following_sum(program):
    """The least sum over all choices of followers, or None."""
    every = maker_row(program)
    spans = distance_dict(program)
    sums = []
    for followers in permutations(every):
        row = [spans[one, other] for one, other in zip(every, followers)]
        if None not in row:
            sums.append(sum(row))
    return min(sums) if sums else None


def values_clash(spans, first, second):
    """Whether two unlike values clash, told by the distances (the third fact)."""
    to, back = spans[first[0], second[0]], spans[second[0], first[0]]
    behind = second[1] - first[1]
    return (to is None or behind < to) and (back is None or -behind < back)


def table_is_right(program, table, top):
    """Whether no two values of rounds up to top in one cell of a table clash."""
    every = maker_row(program)
    spans = distance_dict(program)
    cells = {}
    for row, maker in zip(table, every):
        for number in range(1, top + 1):
            cells.setdefault(row[(number - 1) % len(row)], []).append((maker, number))
    for values in cells.values():
        for place, first in enumerate(values):
            for second in values[place + 1:]:
                if values_clash(spans, first, second):
                    return False
    return True


def reader_pairs(program, maker):
    return sorted((other, rounds) for one, other, rounds in program.needs if one == maker)


def all_choices(program):
    """All choices of a reader for each maker (7.1)."""
    return list(product(*[reader_pairs(program, maker) for maker in maker_row(program)]))


def choice_spans(program, choice):
    """What the rounds of a following for a choice need to be, or None, for each maker and follower."""
    least = least_sums(program)
    every = maker_row(program)
    spans = {}
    for maker, (reader, rounds) in zip(every, choice):
        for other in every:
            spans[maker, other] = rounds + least[reader, other] if (reader, other) in least else None
    return spans


def rows_over(every, spans):
    """The ascending list of all followings with these spans as rounds."""
    rows = []
    for followers in permutations(every):
        row = tuple((other, spans[one, other]) for one, other in zip(every, followers))
        if None not in [rounds for other, rounds in row]:
            rows.append(row)
    return sorted(rows)


def sum_of(row):
    return sum(rounds for other, rounds in row)


def least_over(every, spans):
    """The least sum of a following over these spans, or None."""
    return min([sum_of(row) for row in rows_over(every, spans)], default=None)


def followings_of(program):
    """The ascending list of all followings with the distances as rounds."""
    return rows_over(maker_row(program), distance_dict(program))


def is_int(thing):
    return type(thing) is int


def is_row_over(every, spans, thing):
    """Whether a thing is a following, but over these spans."""
    if type(thing) is not tuple or len(thing) != len(every):
        return False
    for pair in thing:
        if type(pair) is not tuple or len(pair) != 2 or not is_int(pair[0]) or not is_int(pair[1]):
            return False
    if sorted(pair[0] for pair in thing) != list(every):
        return False
    rows = [spans[maker, pair[0]] for maker, pair in zip(every, thing)]
    return None not in rows and all(pair[1] >= span for pair, span in zip(thing, rows))


def is_lot_over(every, spans, thing):
    """Whether a thing is a lot, but over these spans."""
    if type(thing) is not tuple or len(thing) != 2:
        return False
    for part in thing:
        if type(part) is not tuple or not all(is_int(maker) and maker in every for maker in part):
            return False
        if any(one >= other for one, other in zip(part, part[1:])):
            return False
    led = {other for one in thing[0] for other in every if spans[one, other] is not None}
    return len(thing[0]) > len(thing[1]) and led <= set(thing[1])


def told_links(program):
    """A dict from all that tells a link, or a turn, to its triple."""
    told = {("need", number): link for number, link in enumerate(program.needs)}
    told.update({("before", number): link for number, link in enumerate(program.befores)})
    told.update({("turn", step): (step, step, 1) for step in range(program.steps)})
    return told


def ring_part(program, times, ring):
    """The part of times of a ring, as a Fraction; None for what is no ring (8.3)."""
    told = told_links(program)
    if type(ring) is not tuple or len(ring) == 0:
        return None
    for link in ring:
        if type(link) is not tuple or len(link) != 2 or not is_int(link[1]) or link not in told:
            return None
    links = [told[link] for link in ring]
    if any(link[1] != behind[0] for link, behind in zip(links, links[1:] + links[:1])):
        return None
    return Fraction(sum(times[link[0]] for link in links), sum(link[2] for link in links))


def simple_rings(program):
    """All rings that go through no step twice, beginning at their least step."""
    told = told_links(program)
    rings = []
    walks = [((link,), (triple[0],), triple[1]) for link, triple in told.items()]
    while walks:
        walk, passed, at = walks.pop()
        if at == passed[0]:
            rings.append(walk)
        elif at > passed[0] and at not in passed:
            walks.extend(
                (walk + (link,), passed + (at,), triple[1]) for link, triple in told.items() if triple[0] == at
            )
    return rings


def is_zero_ring(needs, befores, ring):
    """Whether a thing is a ring over 0 rounds, told in these links."""
    rows = {"need": needs, "before": befores}
    if type(ring) is not tuple or len(ring) == 0:
        return False
    links = []
    for told in ring:
        if type(told) is not tuple or len(told) != 2 or told[0] not in rows or not is_int(told[1]):
            return False
        if not 0 <= told[1] < len(rows[told[0]]):
            return False
        links.append(rows[told[0]][told[1]])
    round_about = all(link[1] == behind[0] for link, behind in zip(links, links[1:] + links[:1]))
    return round_about and sum(link[2] for link in links) == 0
