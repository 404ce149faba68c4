"""A bench that holds a program while it is changed, and takes changes back."""

from aheadcells.basics import is_between, is_step
from aheadcells.errors import NoLink, NoNumber, NoStep, NothingDone
from aheadcells.followings import crowd, following, least_cells, lot
from aheadcells.programs import Program, is_rounds


def check_link(program, one, other, rounds):
    """Raise NoStep or NoNumber for what cannot stand in a link."""
    if not is_step(program, one) or not is_step(program, other):
        raise NoStep()
    if not is_rounds(rounds):
        raise NoNumber()


def told_row(program, word, index):
    """The links of the kind that the word tells, where one of them has this number; NoLink for other things."""
    if not isinstance(word, str) or word not in ("need", "before"):
        raise NoLink()
    links = program.needs if word == "need" else program.befores
    if not is_between(0, len(links) - 1, index):
        raise NoLink()
    return links


def with_row(program, word, links):
    """A program with these links in the place of those of their kind."""
    if word == "need":
        return Program(program.steps, links, program.befores)
    return Program(program.steps, program.needs, links)


class Bench:
    """A program that is changed, with all that it was ahead of changes that can be taken back."""

    def __init__(self, program):
        self.held = program
        self.past = ()

    def put(self, program):
        """Go on with another program. Nothing is ever changed in the tuple of those of the past, so it can be kept."""
        self.past = self.past + (self.held,)
        self.held = program

    def need(self, one, other, rounds):
        """Put a need behind the others."""
        check_link(self.held, one, other, rounds)
        self.put(with_row(self.held, "need", self.held.needs + ((one, other, rounds),)))

    def before(self, one, other, rounds):
        """Put a before behind the others."""
        check_link(self.held, one, other, rounds)
        self.put(with_row(self.held, "before", self.held.befores + ((one, other, rounds),)))

    def strike(self, word, index):
        """Take a link out."""
        links = told_row(self.held, word, index)
        self.put(with_row(self.held, word, links[:index] + links[index + 1:]))

    def change(self, word, index, rounds):
        """Give a link other rounds."""
        if not is_rounds(rounds):
            raise NoNumber()
        links = told_row(self.held, word, index)
        link = links[index][:2] + (rounds,)
        self.put(with_row(self.held, word, links[:index] + (link,) + links[index + 1:]))

    def step(self):
        """Put one more step behind."""
        self.put(Program(self.held.steps + 1, self.held.needs, self.held.befores))

    def program(self):
        """The program as it is now."""
        return self.held

    def cells(self):
        """The least number of cells that are enough, or None."""
        return least_cells(self.held)

    def following(self):
        """A following of the least sum, or None."""
        return following(self.held)

    def crowd(self):
        """A crowd of as many values, or None."""
        return crowd(self.held)

    def lot(self):
        """A lot, or None if there is a following."""
        return lot(self.held)

    def back(self):
        """Take back the last change that is not taken back."""
        if len(self.past) == 0:
            raise NothingDone()
        self.held = self.past[-1]
        self.past = self.past[:-1]

    def depth(self):
        """How many changes can be taken back."""
        return len(self.past)

    def trying(self, action):
        """What a function returns that is called with the bench; all is put back to what it was, also on an error."""
        held = self.held
        past = self.past
        try:
            return action(self)
        finally:
            self.held, self.past = held, past

    def copy(self):
        """Another bench that goes on apart."""
        other = Bench(self.held)
        other.past = self.past
        return other
