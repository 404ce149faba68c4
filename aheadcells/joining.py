"""Programs out of programs: side by side, with further befores, several rounds in one, and renumbered."""

from aheadcells.basics import is_between
from aheadcells.errors import NoLinks, NoNumber, NoNumbers
from aheadcells.programs import is_link, unbounded

MOST_UNROLLED = 6


def side_by_side(one, other):
    """The program of the steps and links of both, those of the other numbered behind."""
    needs = [(first + one.steps, second + one.steps, rounds) for first, second, rounds in other.needs]
    befores = [(first + one.steps, second + one.steps, rounds) for first, second, rounds in other.befores]
    return unbounded(one.steps + other.steps, one.needs + tuple(needs), one.befores + tuple(befores))


def with_befores(program, links):
    """The program with these befores behind its own, but for those that stand there already."""
    # A dict keeps the order of its keys, and each of them once.
    befores = {link: True for link in program.befores + tuple(links)}
    return unbounded(program.steps, program.needs, tuple(befores))


def joined(program, links):
    """The program with further befores."""
    if not isinstance(links, (list, tuple)) or not all([is_link(program.steps, link) for link in links]):
        raise NoLinks()
    return with_befores(program, links)


def unrolled_links(links, many):
    """The links that come of these where so many rounds are one."""
    found = []
    for one, other, rounds in links:
        for place in range(many):
            later = place + rounds
            found.append((one * many + place, other * many + later % many, later // many))
    return tuple(found)


def unrolled(program, many):
    """The program in which so many rounds are one, with a step for each step and each of these rounds."""
    if not is_between(1, MOST_UNROLLED, many):
        raise NoNumber()
    turns = [(step, step, 1) for step in range(program.steps)]
    needs = unrolled_links(program.needs, many)
    befores = unrolled_links(program.befores, many)
    return with_befores(unbounded(program.steps * many, needs, befores), unrolled_links(turns, many))


def moved(program, numbers):
    """The program with its steps renumbered."""
    steps = program.steps
    if not isinstance(numbers, tuple) or not all([is_between(0, steps - 1, number) for number in numbers]):
        raise NoNumbers()
    if len(numbers) != steps or len(set(numbers)) != steps:
        raise NoNumbers()
    needs = [(numbers[one], numbers[other], rounds) for one, other, rounds in program.needs]
    befores = [(numbers[one], numbers[other], rounds) for one, other, rounds in program.befores]
    return unbounded(steps, tuple(needs), tuple(befores))
