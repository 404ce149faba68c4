"""The words of the document, done slowly and without the package, so that the tests can hold it against them."""

from itertools import permutations


def links_of(program):
    return list(program.needs) + list(program.befores)


def doings_of(order):
    """The doing at each place of an order."""
    counts = {}
    found = []
    for step in order:
        counts[step] = counts.get(step, 0) + 1
        found.append((step, counts[step]))
    return found


def is_lawful(program, order):
    """Whether each doing stands behind those that the links tell (2.1)."""
    stood = set()
    for step, number in doings_of(order):
        for one, other, rounds in links_of(program):
            if other == step and number - rounds >= 1 and (one, number - rounds) not in stood:
                return False
        stood.add((step, number))
    return True


def first_fault(program, order):
    """The first place at which an order is not lawful, or None."""
    for place in range(len(order)):
        if not is_lawful(program, order[:place + 1]):
            return place
    return None


def next_steps(program, order):
    return tuple(step for step in range(program.steps) if is_lawful(program, tuple(order) + (step,)))


def wanted_values(program, order):
    """The values that were made and have a reading that was not done yet (2.2)."""
    done = set(doings_of(order))
    found = set()
    for step, number in done:
        for one, other, rounds in program.needs:
            if one == step and (other, number + rounds) not in done:
                found.add((step, number))
    return sorted(found)


def states(program, top):
    """A dict from how often each step can have been done, none more often than top, to an order that does it."""
    start = (0,) * program.steps
    found = {start: ()}
    queue = [start]
    for counts in queue:
        for step in range(program.steps):
            number = counts[step] + 1
            free = all(
                counts[one] >= number - rounds
                for one, other, rounds in links_of(program)
                if other == step and number - rounds >= 1
            )
            after = counts[:step] + (number,) + counts[step + 1:]
            if free and number <= top and after not in found:
                found[after] = found[counts] + (step,)
                queue.append(after)
    return found


def wanted_in(program, counts):
    """The values that are wanted when each step was done so often."""
    return {
        (one, number)
        for one, other, rounds in program.needs
        for number in range(1, counts[one] + 1)
        if counts[other] < number + rounds
    }


def clashing(program, top):
    """The set of all pairs of unlike values, of rounds up to top, that are wanted at once behind some order."""
    found = set()
    for counts in states(program, top):
        both = sorted(wanted_in(program, counts))
        found.update((first, second) for first in both for second in both if first != second)
    return found


def least_sums(program):
    """The least sum of rounds of a way for each two steps between which there is one."""
    least = {(step, step): 0 for step in range(program.steps)}
    for one, other, rounds in links_of(program):
        least[one, other] = min(rounds, least.get((one, other), rounds))
    for by in range(program.steps):
        for one in range(program.steps):
            for other in range(program.steps):
                if (one, by) in least and (by, other) in least:
                    both = least[one, by] + least[by, other]
                    least[one, other] = min(both, least.get((one, other), both))
    return least


def maker_row(program):
    return sorted({one for one, other, rounds in program.needs})


def distance_of(program, one, other):
    """The distance of 4.1, or None."""
    least = least_sums(program)
    sums = [least.get((reader, other)) for maker, reader, rounds in program.needs if maker == one]
    if None in sums:
        return None
    return max(
        rounds + least[reader, other] for maker, reader, rounds in program.needs if maker == one
    )


def distance_dict(program):
    every = maker_row(program)
    return {(one, other): distance_of(program, one, other) for one in every for other in every}


def least_following_sum(program):
    """The least sum over all choices of followers, or None."""
    every = maker_row(program)
    spans = distance_dict(program)
    sums = []
    for followers in permutations(every):
        row = [spans[one, other] for one, other in zip(every, followers)]
        if None not in row:
            sums.append(sum(row))
    return min(sums) if sums else None


def values_clash(spans, first, second):
    """Whether two unlike values clash, told by the distances (the third fact)."""
    to, back = spans[first[0], second[0]], spans[second[0], first[0]]
    behind = second[1] - first[1]
    return (to is None or behind < to) and (back is None or -behind < back)


def table_is_right(program, table, top):
    """Whether no two values of rounds up to top in one cell of a table clash."""
    every = maker_row(program)
    spans = distance_dict(program)
    cells = {}
    for row, maker in zip(table, every):
        for number in range(1, top + 1):
            cells.setdefault(row[(number - 1) % len(row)], []).append((maker, number))
    for values in cells.values():
        for place, first in enumerate(values):
            for second in values[place + 1:]:
                if values_clash(spans, first, second):
                    return False
    return True
