"""Befores that bring a program down to so many cells, and the links that its number of cells rests on."""

from aheadcells.basics import is_between, is_step, least_from, told_links, zero_ring
from aheadcells.errors import NoNumber
from aheadcells.followings import first_values, least_cells
from aheadcells.programs import makers, readers, unbounded

MOST_NUMBER = 200
MOST_OVER = 3
MOST_BEFORES = 2


def check_numbers(many, most):
    """Raise NoNumber unless both are numbers that may stand there."""
    if not is_between(0, MOST_NUMBER, many) or not is_between(0, MOST_OVER, most):
        raise NoNumber()


def least_rows(program, cap):
    """For each step the list of the least rounds to all steps, drawn down to the cap, which stands for none, too."""
    rows = []
    for step in range(program.steps):
        least = least_from(program, step)
        rows.append([min(least.get(other, cap), cap) for other in range(program.steps)])
    return rows


def rows_with(rows, before):
    """The least rounds where there is this before, too."""
    one, other, rounds = before
    onward = rows[other]
    found = []
    for row in rows:
        sooner = row[one] + rounds
        found.append([min(least, sooner + more) for least, more in zip(row, onward)])
    return found


def is_whole(spans, crowd):
    """Whether each two values of a crowd clash, where these are the distances."""
    for one, first, _ in crowd:
        row = spans[one]
        for other, _, last in crowd:
            if last - first >= row[other]:
                return False
    return True


def bounds_of(values):
    """The triples (maker, first round, last round) of the values of a crowd."""
    firsts = {}
    lasts = {}
    for maker, number in values:
        firsts[maker] = min(number, firsts.get(maker, number))
        lasts[maker] = max(number, lasts.get(maker, number))
    return [(maker, firsts[maker], lasts[maker]) for maker in firsts]


class Search:
    """A search for befores with which so many cells are enough for a program.

    Befores only take clashes away, so what is a crowd with some befores is one without them as well. The crowds
    that were found are kept: most befores leave one of them whole. Makers are told by their places.
    """

    def __init__(self, program, many, most):
        self.makers = makers(program)
        self.pairs = [readers(program, maker) for maker in self.makers]
        self.limit = many
        self.most = most
        self.crowds = []

    def spans(self, rows):
        """The distances where these are the least rounds."""
        return [
            [max([rounds + rows[reader][maker] for reader, rounds in pairs]) for maker in self.makers]
            for pairs in self.pairs
        ]

    def crowd_in(self, rows):
        """A crowd of more values than there may be cells, where these are the least rounds, or None."""
        spans = self.spans(rows)
        for crowd in self.crowds:
            if is_whole(spans, crowd):
                return crowd
        values = first_values(list(range(len(spans))), spans, self.limit + 1)
        if len(values) <= self.limit:
            return None
        crowd = bounds_of(values)
        self.crowds = [crowd] + self.crowds
        return crowd

    def soonest(self, rows, one, other):
        """The fewest rounds that a before may be over without a ring over 0 rounds, or None if these are too many."""
        rounds = 0 if rows[other][one] > 0 else 1
        return rounds if rounds <= self.most else None

    def shortening(self, rows):
        """The list of the befores that shorten the way between their steps, over as few rounds as may be."""
        found = []
        for one in range(len(rows)):
            for other in range(len(rows)):
                rounds = self.soonest(rows, one, other)
                if rounds is not None and rounds < rows[one][other]:
                    found.append((one, other, rounds))
        return found

    def parting(self, rows, crowd):
        """A dict that has, as its keys, those befores that alone part two values of a crowd."""
        found = {}
        for one, first, _ in crowd:
            for other, _, last in crowd:
                for before in self.bringing(rows, self.pairs[one], self.makers[other], last - first):
                    found[before] = True
        return found

    def bringing(self, rows, pairs, maker, room):
        """The list of those befores that bring all readings ahead of a maker that has so many rounds more."""
        late = [(reader, rounds) for reader, rounds in pairs if rounds + rows[reader][maker] > room]
        found = []
        for one in range(len(rows)):
            sooner = max([rounds + rows[reader][one] for reader, rounds in late])
            if sooner <= room:
                for other in range(len(rows)):
                    rounds = self.soonest(rows, one, other)
                    if rounds is not None and sooner + rounds + rows[other][maker] <= room:
                        found.append((one, other, rounds))
        return found

    def one_more(self, rows):
        """A before with which so many cells are enough, as a tuple of one, or None, where they are not without it."""
        left = list(self.parting(rows, self.crowd_in(rows)))
        while len(left) > 0:
            crowd = self.crowd_in(rows_with(rows, left[0]))
            if crowd is None:
                return (left[0],)
            # Whatever leaves this crowd whole does not help either.
            others = self.parting(rows, crowd)
            left = [before for before in left if before in others]
        return None

    def two_more(self, rows):
        """Two befores with which so many cells are enough, or None, where they are not with one alone."""
        # If two are needed, that over as few rounds as may be and, behind it, the other one likewise do as well.
        for before in self.shortening(rows):
            behind = self.one_more(rows_with(rows, before))
            if behind is not None:
                return (before,) + behind
        return None


def helping(program, many, most):
    """As few befores as can be, none, one or two, with which so many cells are enough, or None."""
    check_numbers(many, most)
    search = Search(program, many, most)
    rows = least_rows(program, many + 1)
    if search.crowd_in(rows) is None:
        return ()
    found = search.one_more(rows)
    if found is None:
        found = search.two_more(rows)
    return found


def is_new_before(program, most, thing):
    """Whether a thing is a before that the program has not, over no more rounds than this."""
    if not isinstance(thing, tuple) or len(thing) != 3 or not is_between(0, most, thing[2]):
        return False
    return is_step(program, thing[0]) and is_step(program, thing[1]) and thing not in program.befores


def is_helping(program, many, most, thing):
    """Whether a thing is a tuple of up to two befores with which so many cells are enough."""
    check_numbers(many, most)
    if not isinstance(thing, tuple) or len(thing) > MOST_BEFORES:
        return False
    if not all([is_new_before(program, most, before) for before in thing]) or len(set(thing)) != len(thing):
        return False
    befores = program.befores + thing
    if zero_ring(program.steps, program.needs, befores) is not None:
        return False
    least = least_cells(unbounded(program.steps, program.needs, befores))
    return least is not None and least <= many


def without_link(program, told):
    """The program without one of its links."""
    word, number = told
    needs, befores = program.needs, program.befores
    if word == "need":
        needs = needs[:number] + needs[number + 1:]
    else:
        befores = befores[:number] + befores[number + 1:]
    return unbounded(program.steps, needs, befores)


def tight(program):
    """The ascending list of the links without which alone the least number of cells is another one."""
    many = least_cells(program)
    links = sorted([told for told, _ in told_links(program.needs, program.befores)])
    return [told for told in links if least_cells(without_link(program, told)) != many]
