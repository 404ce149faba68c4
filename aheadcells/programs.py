"""Programs: steps that go round for ever, and what is known of when they are done."""

from aheadcells.basics import is_between, is_doing, is_step, zero_ring
from aheadcells.errors import BadProgram, NoStep, Stuck

MOST_STEPS = 12
MOST_LINKS = 40
MOST_ROUNDS = 6


class Program:
    """Steps, the needs between them, and the befores; the bounds hold only for what is constructed here."""

    def __init__(self, steps, needs, befores):
        if not is_between(1, MOST_STEPS, steps):
            raise BadProgram("steps")
        if not is_link_row(steps, needs):
            raise BadProgram("needs")
        if not is_link_row(steps, befores):
            raise BadProgram("befores")
        ring = zero_ring(steps, needs, befores)
        if ring is not None:
            raise Stuck(ring)
        self.steps = steps
        self.needs = needs
        self.befores = befores

    def __eq__(self, other):
        return (
            isinstance(other, Program)
            and self.steps == other.steps
            and self.needs == other.needs
            and self.befores == other.befores
        )


def unbounded(steps, needs, befores):
    """A program to be returned, which may be beyond the bounds of what is constructed."""
    ring = zero_ring(steps, needs, befores)
    if ring is not None:
        raise Stuck(ring)
    made = Program(1, (), ())
    made.steps = steps
    made.needs = needs
    made.befores = befores
    return made


def is_rounds(thing):
    """Whether a thing is rounds, as a link of a constructed program may have them."""
    return is_between(0, MOST_ROUNDS, thing)


def is_link(steps, thing):
    """Whether a thing is a triple of two steps and rounds, as a constructed program may have it."""
    return (
        isinstance(thing, tuple)
        and len(thing) == 3
        and is_between(0, steps - 1, thing[0])
        and is_between(0, steps - 1, thing[1])
        and is_rounds(thing[2])
    )


def is_link_row(steps, thing):
    """Whether a thing is a tuple of unlike links, not too many."""
    if not isinstance(thing, tuple) or len(thing) > MOST_LINKS:
        return False
    return all([is_link(steps, link) for link in thing]) and len(set(thing)) == len(thing)


def readers(program, step):
    """The ascending tuple of the pairs (reader, rounds) of the needs from a step."""
    if not is_step(program, step):
        raise NoStep()
    return tuple(sorted([(other, rounds) for one, other, rounds in program.needs if one == step]))


def makers(program):
    """The ascending tuple of the steps whose values are read."""
    return tuple(sorted({link[0] for link in program.needs}))


def is_maker(program, thing):
    """Whether a thing is a maker of the program."""
    return is_step(program, thing) and thing in makers(program)


def is_value(program, thing):
    """Whether a thing is a doing of a maker, by which its value is named."""
    return is_doing(program, thing) and is_maker(program, thing[0])
