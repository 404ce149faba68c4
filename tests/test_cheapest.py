import random
import unittest
from math import factorial

from aheadcells.cheapest import always, cheapest, least_with, least_without, many_cheapest, never
from aheadcells.errors import NoFollowing, NoMaker, NoNumber
from aheadcells.followings import is_following, least_cells
from aheadcells.programs import Program, makers
from tests import reference
from tests.samples import (
    BARE, FAR, GREAT, LONE, LOOSE, NAMED, P, Q, R, T, bound_program, drawn_programs, odd_things,
)


def alike(many):
    """So many makers whose values are all read at the end of a round, and made in its beginning."""
    needs = tuple((step, many, 0) for step in range(many))
    return Program(many + 1, needs, tuple((many, step, 1) for step in range(many)))


def ringed(needs, rounds):
    """A program with a ring of befores, with these rounds, through all its steps."""
    steps = len(rounds)
    return Program(steps, needs, tuple((step, (step + 1) % steps, more) for step, more in enumerate(rounds)))


# Makers that can exchange followers only by others that stand behind them.
TANGLED = (
    ringed(((3, 3, 1), (6, 0, 1), (4, 5, 0), (6, 1, 1), (5, 5, 1), (7, 1, 1), (7, 7, 1), (6, 5, 1), (2, 1, 1)),
           (0, 1, 0, 1, 1, 0, 1, 0)),
    ringed(((2, 5, 1), (1, 5, 1), (3, 6, 1), (2, 6, 1), (5, 2, 1), (3, 3, 1), (3, 2, 1), (0, 6, 1), (5, 2, 0),
            (3, 5, 1)), (0, 1, 1, 1, 0, 1, 1)),
    ringed(((3, 3, 1), (3, 4, 0), (2, 5, 1), (1, 2, 0), (4, 4, 1), (5, 4, 1), (3, 4, 1), (2, 0, 1), (5, 5, 1),
            (4, 0, 0), (5, 0, 0), (6, 2, 1), (1, 5, 1)), (1, 1, 0, 0, 1, 0, 0)),
    ringed(((2, 6, 0), (3, 3, 1), (1, 1, 1), (5, 7, 1), (5, 2, 1), (3, 0, 1), (2, 3, 1), (1, 2, 0), (0, 4, 1)),
           (1, 1, 1, 1, 0, 1, 1, 1)),
)


def drawn():
    source = random.Random(91)
    bound = [bound_program(source, source.randint(2, 5), source.randint(2, 7), 3) for _ in range(80)]
    # Few rounds, so that many followings are equally cheap.
    bound += [bound_program(source, source.randint(3, 6), source.randint(3, 8), 1) for _ in range(60)]
    return drawn_programs(92, 120, 5, 6, 2) + bound + list(NAMED) + list(TANGLED) + [alike(4)]


def cheapest_by_words(program):
    rows = reference.followings_of(program)
    return [row for row in rows if reference.sum_of(row) == min(map(reference.sum_of, rows))]


class Cheapest(unittest.TestCase):
    """Point 9.1: many_cheapest and cheapest."""

    def check_none(self, program, number):
        with self.assertRaises(NoNumber):
            cheapest(program, number)

    def test_ordinary(self):
        self.assertEqual(many_cheapest(P), 1)
        self.assertEqual(cheapest(P, 0), ((1, 0), (2, 0), (0, 1)))
        self.assertEqual(many_cheapest(T), 6)
        self.assertEqual(cheapest(T, 0), ((0, 1), (3, 1), (4, 1)))
        self.assertEqual(cheapest(T, 5), ((4, 1), (3, 1), (0, 1)))
        self.check_none(T, 6)

    def test_without_makers(self):
        self.assertEqual(many_cheapest(BARE), 1)
        self.assertEqual(cheapest(BARE, 0), ())
        self.check_none(BARE, 1)
        self.assertEqual(always(BARE), [])
        self.assertEqual(never(BARE), [])

    def test_with_a_lot(self):
        for program in (Q, LOOSE):
            self.assertEqual(many_cheapest(program), 0)
            self.check_none(program, 0)

    def test_against_all_followings(self):
        several = 0
        for program in drawn():
            rows = cheapest_by_words(program)
            many = many_cheapest(program)
            self.assertIs(type(many), int)
            self.assertEqual(many, len(rows))
            found = [cheapest(program, number) for number in range(many)]
            self.assertEqual(found, rows)
            for row in found:
                self.assertTrue(type(row) is tuple and is_following(program, row))
            self.check_none(program, many)
            self.check_none(program, many + 1)
            several += many > 2
        self.assertGreater(several, 40)

    def test_many_of_them(self):
        self.assertEqual(many_cheapest(GREAT), factorial(7))
        self.assertEqual(many_cheapest(alike(11)), factorial(11))
        self.assertEqual(cheapest(alike(11), 0), tuple((step, 1) for step in range(11)))
        last = factorial(11) - 1
        self.assertEqual(cheapest(alike(11), last), tuple((step, 1) for step in reversed(range(11))))
        self.assertEqual(cheapest(alike(11), last - 1)[-3:], ((2, 1), (0, 1), (1, 1)))
        self.check_none(alike(11), last + 1)

    def test_great_programs(self):
        source = random.Random(93)
        for _ in range(6):
            program = bound_program(source, 12, 30, 2)
            many = many_cheapest(program)
            rows = [cheapest(program, number) for number in sorted({0, many // 3, many // 2, many - 1})]
            self.assertEqual(rows, sorted(set(rows)))
            for row in rows:
                self.assertTrue(is_following(program, row))
                self.assertEqual(reference.sum_of(row), least_cells(program))
                self.assertLessEqual(set(always(program)), set(zip(makers(program), [pair[0] for pair in row])))
            self.check_none(program, many)

    def test_no_number(self):
        for thing in odd_things() + [-1, 6, 10 ** 39, True, "0", (0,)]:
            for program in (T, Q, BARE):
                self.check_none(program, thing)

    def test_equal_calls(self):
        for program in (P, T, FAR):
            twin = Program(program.steps, program.needs, program.befores)
            self.assertEqual(cheapest(program, 0), cheapest(twin, 0))
            self.assertEqual(many_cheapest(program), many_cheapest(program))


class AlwaysAndNever(unittest.TestCase):
    """Point 9.1: always and never."""

    def test_ordinary(self):
        self.assertEqual(always(P), [(0, 1), (1, 2), (2, 0)])
        self.assertEqual(never(P), [(0, 0), (0, 2), (1, 0), (1, 1), (2, 1), (2, 2)])
        self.assertEqual(always(T), [])
        self.assertEqual(never(T), [])
        self.assertEqual(always(LONE), [(0, 0)])

    def test_against_all_followings(self):
        found = {"always": 0, "never": 0}
        for program in drawn():
            rows = cheapest_by_words(program)
            if not rows:
                for call in (always, never):
                    with self.assertRaises(NoFollowing):
                        call(program)
                continue
            every = reference.maker_row(program)
            spans = reference.distance_dict(program)
            pairs = [set(zip(every, [pair[0] for pair in row])) for row in rows]
            both = [(one, other) for one in every for other in every if spans[one, other] is not None]
            self.assertEqual(always(program), [pair for pair in both if all(pair in row for row in pairs)])
            self.assertEqual(never(program), [pair for pair in both if all(pair not in row for row in pairs)])
            found["always"] += 0 < len(always(program)) < len(every)
            found["never"] += len(never(program)) > 0
        self.assertGreater(min(found.values()), 20)

    def test_no_distance(self):
        """A pair without a distance stands in none, but is not told."""
        program = Program(2, ((0, 0, 1), (1, 1, 1)), ((0, 1, 0),))
        self.assertEqual(never(program), [(0, 1)])
        self.assertEqual(always(program), [(0, 0), (1, 1)])

    def test_new_lists(self):
        always(P).clear()
        never(P).clear()
        self.assertEqual((len(always(P)), len(never(P))), (3, 6))
        self.assertTrue(type(always(P)) is list and type(never(P)) is list)


class LeastWith(unittest.TestCase):
    """Point 9.2."""

    def test_ordinary(self):
        self.assertEqual([least_with(P, 0, other) for other in range(3)], [2, 1, 2])
        self.assertEqual([least_without(P, 0, other) for other in range(3)], [1, 2, 1])
        self.assertEqual(least_with(R, 0, 0), 2)
        self.assertIsNone(least_without(R, 0, 0))

    def test_none(self):
        program = Program(2, ((0, 0, 1), (1, 1, 1)), ((0, 1, 0),))
        self.assertEqual(least_with(program, 0, 0), 2)
        self.assertIsNone(least_with(program, 0, 1))
        self.assertIsNone(least_with(program, 1, 0))
        self.assertIsNone(least_without(program, 0, 0))
        self.assertEqual(least_without(program, 0, 1), 2)
        self.assertIsNone(least_with(Q, 0, 0))
        self.assertIsNone(least_without(Q, 0, 0))
        for one in range(4):
            for other in range(4):
                self.assertIsNone(least_with(LOOSE, one, other))
                self.assertIsNone(least_without(LOOSE, one, other))

    def test_against_all_followings(self):
        found = {True: 0, False: 0}
        for program in drawn():
            every = makers(program)
            rows = reference.followings_of(program)
            for place, one in enumerate(every):
                for other in every:
                    sums = {True: [], False: []}
                    for row in rows:
                        sums[row[place][0] == other].append(reference.sum_of(row))
                    self.assertEqual(least_with(program, one, other), min(sums[True], default=None))
                    self.assertEqual(least_without(program, one, other), min(sums[False], default=None))
                    found[bool(sums[True])] += 1
        self.assertGreater(min(found.values()), 200)

    def test_no_maker(self):
        for thing in odd_things() + [1, 2, 5, 6, 10 ** 39]:
            for pair in ((thing, 0), (0, thing), (thing, None), (None, thing)):
                for call in (least_with, least_without):
                    with self.assertRaises(NoMaker):
                        call(T, *pair)
        for call in (least_with, least_without):
            for program in (Q, LOOSE, BARE):
                with self.assertRaises(NoMaker):
                    call(program, 0, 4)


if __name__ == "__main__":
    unittest.main()
