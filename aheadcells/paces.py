"""Waiting for cells, and how fast a program goes round."""

from math import gcd

from aheadcells.basics import is_between, is_from, is_integer, ring_behind, told_links
from aheadcells.errors import NoFraction, NoShort, NoTimes
from aheadcells.followings import follows_over
from aheadcells.programs import makers, readers, unbounded

MOST_TIME = 99


def is_short(program, thing):
    """Whether a thing is a short following."""
    every = makers(program)
    rows = [max([rounds for _, rounds in readers(program, maker)]) for maker in every]
    return follows_over(program, [[most] * len(every) for most in rows], thing)


def waiting(program, thing):
    """The program in which each maker's follower waits for its readers, as a short following tells."""
    if not is_short(program, thing):
        raise NoShort()
    # A dict keeps the order of its keys.
    befores = {link: True for link in program.befores}
    for maker, (follower, rounds) in zip(makers(program), thing):
        for reader, sooner in readers(program, maker):
            if reader != follower:
                befores[(reader, follower, rounds - sooner)] = True
    return unbounded(program.steps, program.needs, tuple(befores))


def check_times(program, times):
    """Raise NoTimes unless it is a tuple with a time for each step."""
    if not isinstance(times, tuple) or len(times) != program.steps:
        raise NoTimes()
    if not all([is_between(1, MOST_TIME, time) for time in times]):
        raise NoTimes()


def links_and_turns(program):
    """Each link, and each step in turn, as a pair of what it is told by and its triple."""
    turns = [(("turn", step), (step, step, 1)) for step in range(program.steps)]
    return told_links(program.needs, program.befores) + turns


def dearer_ring(links, times, part):
    """A ring of more time a round than this part, as a tuple of told links, or None."""
    top, bottom = part
    gains = [0] * len(times)
    came = {}
    changed = None
    # A gain that still grows when ways may have as many links as there are steps comes round a ring.
    for _ in range(len(times)):
        changed = None
        for told, (one, other, rounds) in links:
            gain = gains[one] + times[one] * bottom - top * rounds
            if gain > gains[other]:
                gains[other] = gain
                came[other] = (told, one)
                changed = other
        if changed is None:
            return None
    return ring_behind(came, changed)


def part_of(links, times, ring):
    """The time of a ring, divided by its rounds, as a fraction."""
    triples = {told: link for told, link in links}
    time = sum([times[triples[told][0]] for told in ring])
    rounds = sum([triples[told][2] for told in ring])
    common = gcd(time, rounds)
    return (time // common, rounds // common)


def pace(program, times):
    """The greatest part of times of a ring, and such a ring."""
    check_times(program, times)
    links = links_and_turns(program)
    ring = (("turn", 0),)
    dearer = ring
    while dearer is not None:
        ring = dearer
        dearer = dearer_ring(links, times, part_of(links, times, ring))
    return (part_of(links, times, ring), ring)


def is_fraction(thing):
    """Whether a thing is a fraction."""
    if not isinstance(thing, tuple) or len(thing) != 2 or not is_integer(thing[0]) or not is_from(1, thing[1]):
        return False
    return gcd(thing[0], thing[1]) == 1


def is_late_enough(late, soon, time, part, rounds):
    """Whether a fraction is at least another one with the time, less part times the rounds."""
    # All bottoms multiplied together, so that only integers are compared.
    whole = late[0] * soon[1] * part[1]
    return whole >= (soon[0] * part[1] + time * soon[1] * part[1] - part[0] * rounds * soon[1]) * late[1]


def is_pace_paper(program, times, part, thing):
    """Whether a thing shows by a fraction for each step that no ring takes more time a round than this part."""
    check_times(program, times)
    if not is_fraction(part):
        raise NoFraction()
    if not isinstance(thing, tuple) or len(thing) != program.steps or not all([is_fraction(one) for one in thing]):
        return False
    for _, (one, other, rounds) in links_and_turns(program):
        if not is_late_enough(thing[other], thing[one], times[one], part, rounds):
            return False
    return True
