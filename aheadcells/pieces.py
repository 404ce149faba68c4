"""Pieces: steps that hold one another, and the cells that each of them needs."""

from heapq import heappop, heappush

from aheadcells.basics import leading_from, leading_to, links_of, spread
from aheadcells.followings import least_among
from aheadcells.programs import makers, readers
from aheadcells.values import distances


def held_steps(program):
    """A dict from each step to the ascending tuple of all steps that hold it."""
    onward = leading_from(program.steps, links_of(program))
    back = leading_to(program.steps, links_of(program))
    held = {}
    for step in range(program.steps):
        if step not in held:
            later = spread(onward, step)
            sooner = spread(back, step)
            piece = tuple(sorted([other for other in later if other in sooner]))
            for other in piece:
                held[other] = piece
    return held


def pieces(program):
    """The list of all pieces, each behind all from which a link leads to it."""
    held = held_steps(program)
    # A piece is told by its first step.
    lacking = {piece[0]: 0 for piece in held.values()}
    behind = {first: [] for first in lacking}
    for one, other, _ in links_of(program):
        if held[one] != held[other]:
            behind[held[one][0]].append(held[other][0])
            lacking[held[other][0]] += 1
    queue = []
    for first in lacking:
        if lacking[first] == 0:
            heappush(queue, first)
    found = []
    while len(queue) > 0:
        first = heappop(queue)
        found.append(held[first])
        for other in behind[first]:
            lacking[other] -= 1
            if lacking[other] == 0:
                heappush(queue, other)
    return found


def loose_makers(program):
    """The ascending tuple of the makers with a reader that does not hold them."""
    held = held_steps(program)
    return tuple([
        maker for maker in makers(program)
        if any([reader not in held[maker] for reader, _ in readers(program, maker)])
    ])


def piece_cells(program):
    """The list of the least sum of a following of the makers in each piece, None where one of them is loose."""
    every = makers(program)
    spans = distances(program)
    return [
        least_among(spans, [place for place, maker in enumerate(every) if maker in piece])
        for piece in pieces(program)
    ]
