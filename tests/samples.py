"""Programs and things that the tests have in common."""

import random

from aheadcells.bench import Bench
from aheadcells.desk import Desk
from aheadcells.errors import CellError, NoStep, Stuck
from aheadcells.programs import Program
from aheadcells.yards import Yard

P = Program(3, ((0, 1, 0), (1, 2, 0), (2, 0, 1)), ())
Q = Program(2, ((0, 1, 0),), ())
R = Program(2, ((0, 1, 0),), ((1, 0, 2),))
T = Program(6, ((0, 1, 0), (0, 2, 0), (3, 5, 0), (4, 5, 0)), ((1, 3, 0), (2, 4, 0), (5, 0, 1)))

# Nothing is made; only a before.
BARE = Program(2, (), ((0, 1, 1),))
# One step that reads what it made twice over.
LONE = Program(1, ((0, 0, 1), (0, 0, 3)), ())
# Readings that reach ahead of round 1, several links between two steps, links from a step to itself.
FAR = Program(3, ((0, 1, 2), (0, 1, 0), (1, 2, 6), (2, 2, 1)), ((1, 0, 3), (2, 1, 1), (2, 1, 4), (0, 0, 2)))
# Two makers in a ring, and two loose ones, the one behind the other, that lead into it.
LOOSE = Program(5, ((0, 1, 0), (1, 0, 1), (2, 3, 1), (3, 3, 1), (3, 0, 0)), ((1, 4, 0),))
# Seven values side by side, each wanted for 36 rounds, so that more than 200 cells are needed.
GREAT = Program(
    12,
    tuple((step, 8, 6) for step in range(1, 8)),
    tuple((0, step, 6) for step in range(1, 8)) + ((8, 9, 6), (9, 10, 6), (10, 11, 6), (11, 0, 6)),
)

NAMED = (P, Q, R, T, BARE, LONE, FAR, LOOSE)


def drawn_program(source, steps, links, rounds):
    """A program with at most so many steps, links of each kind, and rounds, that is not stuck."""
    while True:
        many = source.randint(1, steps)
        rows = []
        for _ in range(2):
            row = {}
            for _ in range(source.randint(0, links)):
                row[source.randrange(many), source.randrange(many), source.randint(0, rounds)] = True
            rows.append(tuple(row))
        try:
            return Program(many, rows[0], rows[1])
        except Stuck:
            continue


def drawn_programs(seed, many, steps=3, links=4, rounds=2):
    source = random.Random(seed)
    return [drawn_program(source, steps, links, rounds) for _ in range(many)]


def bound_program(source, steps, links, rounds):
    """A program all steps of which are held in one ring, so that it has followings."""
    while True:
        ring = tuple((step, (step + 1) % steps, source.choice((0, rounds))) for step in range(steps))
        row = {}
        for _ in range(links):
            row[source.randrange(steps), source.randrange(steps), source.randint(0, rounds)] = True
        try:
            return Program(steps, tuple(row), ring)
        except Stuck:
            continue


def nested(kind, depth):
    """An empty thing of a kind, so deep inside others of this kind."""
    thing = kind()
    for _ in range(depth):
        thing = kind([thing])
    return thing


def nested_dict(depth):
    thing = {}
    for _ in range(depth):
        thing = {"need": thing}
    return thing


def looking(word):
    yield word


def odd_things():
    """Things of every built-in kind that may be passed where an error is named, and of the package, nested deep."""
    return [
        None, True, False, -1, -(10 ** 39), "", "0", "need", "a b\n", b"", b"need", bytearray(b"ab"),
        memoryview(b"ab"), range(3), slice(0, 2), object(), Ellipsis, NotImplemented, int, tuple, len, looking,
        lambda step, number: 0, iter((0, 1)), looking("a"), zip((0,), (1,)), map(int, "01"), enumerate("ab"),
        reversed([0, 1]), {}.keys(), {0: 1}.items(), {1: 2}.values(), property(), staticmethod(len), [].append,
        random, ValueError("a"), ValueError, {}, {0: 1}, {(0, 1): (0,)}, [], [0], [0, 1], [[0, 1]], [(0, 1)],
        P, R, Program, Bench(P), Desk(), Yard(P, 1), [Yard], (Bench(R), 1), NoStep(), Stuck(()), CellError(), (P,),
        [P, R], (P, 1), (0, P), (0, 1, P), {"a": P},
        (None,), (True,), (False, True), (0, True), (True, 1), (0, 0, True), (0, None), ("0", 1), (0, "1"), ((),),
        ([],), ((0, 1),) * 3 + (None,), ((0, 1, 0), None), (b"a", 1), (0, b"a"), ("need",), ("need", True), (-1,),
        (0, -1), (-1, 1), (-(10 ** 39), 10 ** 39), (P, P, P), ((), (), ()), ([], [], []), (NoStep(), ()),
        nested(tuple, 39), nested(list, 39), nested_dict(39), (nested(list, 38), 1), (0, nested(tuple, 38)),
        [(0, nested(tuple, 37))], [nested(list, 38), P], (0, 1, nested(list, 38)), tuple([None] * 9999),
        [None] * 9999, tuple([(0, None)] * 4999), [(nested(tuple, 30), P)] * 150, "a" * 5000,
    ]


def spoiled(thing):
    """Things that are as this one but in one place, in tuples and lists inside each other."""
    found = [None, True, "0", [thing], (thing,), {0: thing}]
    if isinstance(thing, int) and not isinstance(thing, bool):
        return found + [thing + 1, thing - 1, -1 - thing, thing + 200, str(thing), False]
    if not isinstance(thing, (tuple, list)):
        return found
    kind = type(thing)
    found.append(list(thing) if kind is tuple else tuple(thing))
    found.append(thing + kind([None]))
    found.append(thing + kind([0]))
    for place, part in enumerate(thing):
        found.append(thing[:place] + thing[place + 1:])
        found.append(thing[:place] + kind([part]) + thing[place:])
        found.extend(thing[:place] + kind([other]) + thing[place + 1:] for other in spoiled(part))
    return found
