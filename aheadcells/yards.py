"""A yard that deals cells while the steps are done."""

from aheadcells.basics import is_between, is_step, leading_to, links_of
from aheadcells.errors import Full, NoNumber, NoStep, NotYet, NothingDone
from aheadcells.orders import can_come, free_steps, still_read
from aheadcells.programs import makers, readers

MOST_CELLS = 200


class Yard:
    """Cells with the values that were put into them, and all that was done, which can be taken back."""

    def __init__(self, program, many):
        if not is_between(0, MOST_CELLS, many):
            raise NoNumber()
        self.held = program
        self.rows = leading_to(program.steps, links_of(program))
        self.pairs = {maker: readers(program, maker) for maker in makers(program)}
        self.counts = [0] * program.steps
        self.spots = [None] * many
        # For each doing its step, the cell into which it put a value, and what lay there ahead of it.
        self.done = []

    def free_spot(self, counts):
        """The first cell without a value that is wanted behind so many doings of each step, or None."""
        for spot, value in enumerate(self.spots):
            if value is None or not still_read(self.pairs[value[0]], counts, value[1]):
                return spot
        return None

    def do(self, step):
        """Do a step, and tell the cell into which its value was put."""
        if not is_step(self.held, step):
            raise NoStep()
        if not can_come(self.rows, self.counts, step):
            raise NotYet()
        counts = list(self.counts)
        counts[step] += 1
        if step not in self.pairs:
            self.done.append((step, None, None))
            self.counts = counts
            return None
        value = (step, counts[step])
        # The doing itself may have been the last reading of a value, whose cell is free then.
        spot = self.free_spot(counts)
        if spot is None:
            raise Full(value)
        self.done.append((step, spot, self.spots[spot]))
        self.counts = counts
        self.spots[spot] = value
        return spot

    def contents(self):
        """The list of what was put last into each cell, or None."""
        return list(self.spots)

    def so_far(self):
        """The order of all that was done."""
        return tuple([step for step, _, _ in self.done])

    def can_do(self):
        """The ascending tuple of the steps that can be done next."""
        return tuple(free_steps(self.rows, self.counts))

    def back(self):
        """Take back the last doing that is not taken back."""
        if len(self.done) == 0:
            raise NothingDone()
        step, spot, former = self.done.pop()
        self.counts[step] -= 1
        if spot is not None:
            self.spots[spot] = former

    def depth(self):
        """How many doings can be taken back."""
        return len(self.done)

    def trying(self, action):
        """What a function returns that is called with the yard; all is put back to what it was, also on an error."""
        counts = list(self.counts)
        spots = list(self.spots)
        done = list(self.done)
        try:
            return action(self)
        finally:
            self.counts, self.spots, self.done = counts, spots, done

    def copy(self):
        """Another yard that goes on apart."""
        other = Yard(self.held, len(self.spots))
        other.counts = list(self.counts)
        other.spots = list(self.spots)
        other.done = list(self.done)
        return other
