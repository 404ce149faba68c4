"""What the other files rest on: kinds of things, links between steps, and least rounds."""

from heapq import heappop, heappush


def is_integer(thing):
    """Whether a thing is an integer; a flag is none."""
    return isinstance(thing, int) and not isinstance(thing, bool)


def is_from(low, thing):
    """Whether a thing is an integer from this one on."""
    return is_integer(thing) and thing >= low


def is_between(low, high, thing):
    """Whether a thing is an integer from the one to the other."""
    return is_integer(thing) and low <= thing <= high


def is_step(program, thing):
    """Whether a thing is a step of the program."""
    return is_between(0, program.steps - 1, thing)


def is_doing(program, thing):
    """Whether a thing is a pair of a step and a round."""
    return isinstance(thing, tuple) and len(thing) == 2 and is_step(program, thing[0]) and is_from(1, thing[1])


def links_of(program):
    """The triples of all links, the needs ahead of the befores."""
    return program.needs + program.befores


def told_links(needs, befores):
    """Each link as a pair: the word and number by which it is told, and its triple."""
    told = [(("need", number), link) for number, link in enumerate(needs)]
    return told + [(("before", number), link) for number, link in enumerate(befores)]


def lined_up(steps, links):
    """The list of the steps, each behind all that lead to it over 0 rounds.

    Steps on or behind a ring of such links are left out.
    """
    lacking = [0] * steps
    behind = [[] for _ in range(steps)]
    for one, other, rounds in links:
        if rounds == 0:
            behind[one].append(other)
            lacking[other] += 1
    line = [step for step in range(steps) if lacking[step] == 0]
    place = 0
    while place < len(line):
        step = line[place]
        for other in behind[step]:
            lacking[other] -= 1
            if lacking[other] == 0:
                line.append(other)
        place += 1
    return line


def ring_behind(came, step):
    """The first ring that is reached going back from a step, as a tuple of told links.

    came is a dict from steps to the told link that leads to them and the step from which it goes.
    """
    places = {}
    walk = []
    while step not in places:
        places[step] = len(walk)
        told, step = came[step]
        walk.append(told)
    ring = walk[places[step]:]
    return tuple(ring[::-1])


def zero_ring(steps, needs, befores):
    """A ring of links that sums to 0 rounds, as a tuple of told links, or None."""
    sound = set(lined_up(steps, needs + befores))
    came = {}
    for told, (one, other, rounds) in told_links(needs, befores):
        if rounds == 0 and one not in sound:
            came[other] = (told, one)
    if len(came) == 0:
        return None
    # Each step that is not sound has one such step ahead of it, so going back must come round.
    return ring_behind(came, min(list(came)))


def leading_from(steps, links):
    """For each step the list of the pairs (other, rounds) of the links from it."""
    rows = [[] for _ in range(steps)]
    for one, other, rounds in links:
        rows[one].append((other, rounds))
    return rows


def leading_to(steps, links):
    """For each step the list of the pairs (one, rounds) of the links to it."""
    rows = [[] for _ in range(steps)]
    for one, other, rounds in links:
        rows[other].append((one, rounds))
    return rows


def spread(rows, start):
    """A dict from each step that is reached along the rows to the least sum of rounds on the way there."""
    least = {}
    queue = [(0, start)]
    while len(queue) > 0:
        rounds, step = heappop(queue)
        if step not in least:
            least[step] = rounds
            for other, more in rows[step]:
                if other not in least:
                    heappush(queue, (rounds + more, other))
    return least


def least_from(program, one):
    """A dict from each step to which there is a way from this one to the least rounds."""
    return spread(leading_from(program.steps, links_of(program)), one)


def least_to(program, other):
    """A dict from each step from which there is a way to this one to the least rounds."""
    return spread(leading_to(program.steps, links_of(program)), other)
