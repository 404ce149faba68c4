"""Lawful orders in which each step is done a given number of times: how many, which, and their numbers."""

from aheadcells.basics import is_between, leading_to, links_of
from aheadcells.errors import NoCounts, NoNumber, TooMany
from aheadcells.orders import can_come, counts_behind

MOST_COUNT = 60
MOST_STATES = 20000


class Onward:
    """In how many lawful orders it goes on to the given counts, from each state on the way there.

    A state tells how often each step was done, as one number: the sum of the worths of all that was done.
    """

    def __init__(self, program, counts):
        self.counts = counts
        self.rows = leading_to(program.steps, links_of(program))
        self.worths = {}
        self.end = 0
        worth = 1
        # Steps that are not done at all need no place in the number of a state.
        for step, many in enumerate(counts):
            if many > 0:
                self.worths[step] = worth
                self.end += worth * many
                worth = worth * (many + 1)
        self.ways = [0] * self.end + [1]
        for state in reversed(range(self.end)):
            self.ways[state] = sum([self.ways[behind] for _, behind in self.next_states(state)])

    def next_states(self, state):
        """The ascending list of the steps that can be done next, each with the state behind it."""
        done = [0] * len(self.counts)
        for step, worth in self.worths.items():
            done[step] = state // worth % (self.counts[step] + 1)
        return [
            (step, state + worth) for step, worth in self.worths.items()
            if done[step] < self.counts[step] and can_come(self.rows, done, step)
        ]

    def many(self):
        """The number of all orders."""
        return self.ways[0]

    def numbered(self, number):
        """The order of this number, where there is one."""
        order = []
        state = 0
        while state < self.end:
            for step, behind in self.next_states(state):
                if number < self.ways[behind]:
                    order.append(step)
                    state = behind
                    break
                number -= self.ways[behind]
        return tuple(order)

    def number_of(self, order):
        """The number of a lawful order with the counts."""
        number = 0
        state = 0
        for step in order:
            number += sum([self.ways[behind] for other, behind in self.next_states(state) if other < step])
            state += self.worths[step]
        return number


def check_few_states(counts):
    """Raise TooMany if there are more states on the way to these counts than are gone through."""
    many = 1
    for count in counts:
        many = many * (count + 1)
        if many > MOST_STATES:
            raise TooMany(MOST_STATES)


def onward_to(program, counts):
    """How it goes on to these counts."""
    if not isinstance(counts, tuple) or len(counts) != program.steps:
        raise NoCounts()
    if not all([is_between(0, MOST_COUNT, count) for count in counts]):
        raise NoCounts()
    check_few_states(counts)
    return Onward(program, counts)


def many_orders(program, counts):
    """The number of the lawful orders in which each step is done just so often."""
    return onward_to(program, counts).many()


def numbered_order(program, counts, number):
    """The order with this number among them, in ascending order."""
    onward = onward_to(program, counts)
    if not is_between(0, onward.many() - 1, number):
        raise NoNumber()
    return onward.numbered(number)


def order_number(program, order):
    """The number of an order among those with the same counts."""
    counts = counts_behind(program, order)
    check_few_states(counts)
    return Onward(program, counts).number_of(order)
