import random
import unittest
from fractions import Fraction
from itertools import combinations, permutations, product
from math import gcd

from aheadcells.errors import NoFraction, NoTimes, Stuck, TooMany
from aheadcells.followings import least_cells
from aheadcells.joining import joined, side_by_side, unrolled
from aheadcells.paces import pace, waiting
from aheadcells.programs import Program, makers
from aheadcells.shorts import least_paced, least_rounds_over, least_short
from tests import reference
from tests.samples import (
    BARE, FAR, GREAT, LONE, LOOSE, NAMED, P, Q, R, T, bound_program, drawn_programs, odd_things,
)

FOUR = Program(5, ((0, 4, 1), (1, 4, 0), (2, 0, 0), (3, 2, 0), (3, 1, 2)), ())
FIVE = Program(5, FOUR.needs + ((4, 3, 1),), ())
# Programs in which a maker has to wait for more rounds than it would by itself, so that others wait for fewer.
GIVING = (
    Program(5, ((1, 3, 1), (0, 3, 0), (1, 1, 1), (1, 2, 2), (1, 3, 0), (4, 2, 0)), ()),
    Program(5, ((4, 2, 1), (3, 2, 1), (1, 0, 1)), ((0, 1, 1), (1, 2, 0), (2, 3, 1), (3, 4, 0), (4, 0, 0))),
    Program(7, ((1, 5, 1), (3, 6, 1), (3, 6, 0), (4, 4, 1), (0, 2, 0)), (
        (0, 1, 1), (1, 2, 0), (2, 3, 1), (3, 4, 0), (4, 5, 0), (5, 6, 1), (6, 0, 1))),
)
GIVING_PACED = (
    (Program(5, ((2, 4, 1), (1, 4, 0), (0, 3, 1)), ((2, 2, 1), (2, 3, 0), (0, 3, 1))), (20, 20, 1, 1, 3), Fraction(20)),
    (Program(5, ((2, 4, 1), (1, 4, 0), (0, 3, 1)), ((2, 2, 1), (2, 3, 0), (0, 3, 1))), (20, 20, 1, 1, 3),
     Fraction(61, 3)),
    (Program(6, ((2, 2, 2), (5, 2, 2), (3, 2, 0), (3, 2, 2), (0, 1, 1)), (
        (0, 1, 0), (1, 2, 2), (2, 3, 2), (3, 4, 0), (4, 5, 0), (5, 0, 2))), (20, 1, 20, 1, 3, 20), Fraction(20)),
)
PLACES = [places for many in range(1, 5) for places in combinations(range(4), many)]


def least_rounds_of(program):
    """The least rounds that a short following has for each maker."""
    every = reference.maker_row(program)
    return [max(rounds for reader, rounds in reference.reader_pairs(program, maker)) for maker in every]


def shorts_with(program, more):
    """All short followings whose sum is so many more than the least that one has."""
    every = reference.maker_row(program)
    least = least_rounds_of(program)
    found = []
    for followers in permutations(every):
        for row in product(range(more + 1), repeat=len(every)):
            if sum(row) == more:
                found.append(tuple((other, low + over) for other, low, over in zip(followers, least, row)))
    return found


def waits(program, thing):
    """The program that waits, or None where it would be stuck."""
    try:
        return waiting(program, thing)
    except Stuck:
        return None


def keeps(program, thing, times, part):
    """Whether it can be waited for a short following, at a pace that is not above the part."""
    made = waits(program, thing)
    return made is not None and Fraction(*pace(made, times)[0]) <= part


def least_by_words(program, right, most):
    """How many more than the least sum the first right short following has; None if it has more than the most."""
    for more in range(most + 1):
        if any(right(thing) for thing in shorts_with(program, more)):
            return more
    return None


def fraction(part):
    return (part.numerator, part.denominator)


def is_short_pair(program, found):
    """Whether a thing has the form that the interface tells, with the sum that the thing in it has."""
    number, thing = found
    return type(found) is tuple and type(number) is int and type(thing) is tuple and reference.sum_of(thing) == number


def few(programs):
    """Those of the programs that have no more makers than may be."""
    return [program for program in programs if len(makers(program)) <= 4]


class LeastShort(unittest.TestCase):
    """Point 16.1: least_short."""

    def check(self, program, most=3):
        """Hold least_short against all short followings, and tell the number."""
        found = least_short(program)
        number, thing = found
        self.assertTrue(is_short_pair(program, found))
        # This raises NoShort for what is none.
        self.assertIsNotNone(waits(program, thing))
        more = least_by_words(program, lambda other: waits(program, other) is not None, most)
        self.assertEqual(number, sum(least_rounds_of(program)) + more)
        least = least_cells(program)
        self.assertTrue(least is None or number <= least)
        return number

    def test_ordinary(self):
        self.assertEqual(self.check(P), 1)
        self.assertEqual(self.check(R), 1)
        self.assertEqual(self.check(T), 2)
        self.assertEqual(self.check(FAR), 9)
        self.assertEqual(self.check(LONE), 3)
        self.assertEqual(self.check(FOUR), 3)

    def test_without_makers(self):
        for program in (BARE, Program(1, (), ()), Program(12, (), tuple((0, step, 0) for step in range(1, 12)))):
            self.assertEqual(least_short(program), (0, ()))

    def test_below_at_and_without_least_cells(self):
        self.assertEqual((least_cells(R), least_short(R)[0]), (2, 1))
        self.assertEqual((least_cells(T), least_short(T)[0]), (3, 2))
        self.assertEqual((least_cells(P), least_short(P)[0]), (1, 1))
        self.assertEqual((least_cells(LONE), least_short(LONE)[0]), (3, 3))
        self.assertEqual((least_cells(Q), self.check(Q)), (None, 1))
        self.assertEqual((least_cells(LOOSE), self.check(LOOSE)), (None, 3))

    def test_a_reader_that_follows(self):
        # The follower itself reads, so nothing waits, and no round more is needed.
        self.assertEqual(least_short(Program(2, ((0, 1, 0), (1, 0, 1)), ())), (1, ((1, 0), (0, 1))))
        self.assertEqual(self.check(Program(1, ((0, 0, 1),), ())), 1)

    def test_waiting_longer_for_one_another(self):
        for program, number in zip(GIVING, (3, 4, 4)):
            self.assertEqual(self.check(program), number)

    def test_drawn(self):
        seen = {}
        many = 0
        for program in few(drawn_programs(211, 500, 5, 6, 2) + list(NAMED)):
            number = self.check(program)
            least = least_cells(program)
            kind = "none" if least is None else "below" if number < least else "at"
            seen[kind] = seen.get(kind, 0) + 1
            many += len(makers(program)) == 4
        self.assertGreater(min(seen.values()), 30)
        self.assertEqual(len(seen), 3)
        self.assertGreater(many, 20)

    def test_rings_of_waiting(self):
        """Programs in which it depends on others for whom a maker can wait."""
        seen = {}
        source = random.Random(212)
        for _ in range(150):
            program = bound_program(source, source.randint(3, 6), source.randint(2, 5), 1)
            if len(makers(program)) <= 4:
                more = self.check(program, 4) - sum(least_rounds_of(program))
                seen[more] = seen.get(more, 0) + 1
        self.assertGreater(seen[1] + seen.get(2, 0), 20)

    def test_too_many(self):
        self.assertEqual((len(makers(FOUR)), len(makers(FIVE))), (4, 5))
        least_short(FOUR)
        for program in (FIVE, GREAT, unrolled(R, 5), side_by_side(T, T)):
            with self.assertRaises(TooMany) as caught:
                least_short(program)
            self.assertEqual(caught.exception.most, 4)
        self.assertEqual(self.check(unrolled(Q, 4), 1), 1)

    def test_equal_calls_change_nothing(self):
        for program in few(NAMED):
            before = (program.steps, program.needs, program.befores)
            twin = Program(*before)
            self.assertEqual(least_short(program), least_short(twin))
            self.assertEqual((program.steps, program.needs, program.befores), before)


class LeastPaced(unittest.TestCase):
    """Point 16.1: least_paced, and the eleventh fact."""

    def check(self, program, times, part, most=3):
        """Hold least_paced against all short followings, and tell how many more than the least sum it has."""
        found = least_paced(program, times, fraction(part))
        number, thing = found
        self.assertTrue(is_short_pair(program, found))
        self.assertTrue(keeps(program, thing, times, part))
        more = number - sum(least_rounds_of(program))
        expected = least_by_words(program, lambda other: keeps(program, other, times, part), min(more, most))
        self.assertEqual(expected, more if more <= most else None)
        least = least_cells(program)
        self.assertTrue(least is None or number <= least)
        self.assertLessEqual(least_short(program)[0], number)
        return more

    def test_ordinary(self):
        # A value of step 0 is in its cell for 3 of time, and step 0 takes 1: three cells keep the pace of step 1.
        self.assertEqual(least_paced(Q, (1, 2), (2, 1)), (2, ((0, 2),)))
        self.assertEqual(least_paced(Q, (1, 2), (3, 1)), (1, ((0, 1),)))
        self.assertEqual(least_paced(Q, (1, 2), (5, 2))[0], 2)
        self.assertIsNone(least_paced(Q, (1, 2), (1, 1)))
        self.assertEqual(least_paced(T, (1, 5, 5, 1, 1, 1), (8, 1))[0], 2)
        # Three steps that take 5 each come between a value and its reading, or are the reading.
        program = Program(4, ((0, 3, 0),), ((0, 1, 0), (1, 2, 0), (2, 3, 0)))
        for part, number in (((5, 1), 4), ((16, 3), 3), ((15, 2), 3), ((8, 1), 2), ((31, 2), 2), ((16, 1), 1)):
            self.assertEqual(least_paced(program, (1, 5, 5, 5), part), (number, ((0, number),)))
        self.assertEqual(least_paced(BARE, (3, 2), (3, 1)), (0, ()))
        self.assertIsNone(least_paced(BARE, (3, 2), (2, 1)))

    def test_none_just_below_the_pace(self):
        source = random.Random(213)
        for program in few(drawn_programs(214, 100, 5, 6, 2) + list(NAMED)):
            times = tuple(source.randint(1, 99) for _ in range(program.steps))
            part = Fraction(*pace(program, times)[0])
            for less in (Fraction(1, 10 ** 30), Fraction(1, 3), Fraction(1), part, part + 5, Fraction(10 ** 38)):
                self.assertIsNone(least_paced(program, times, fraction(part - less)))
            self.assertIsNotNone(least_paced(program, times, fraction(part)))

    def test_drawn(self):
        source = random.Random(215)
        seen = {}
        for program in few(drawn_programs(216, 110, 5, 6, 2) + list(NAMED)):
            times = tuple(source.choice((1, 2, 3, 10, 50)) for _ in range(program.steps))
            part = Fraction(*pace(program, times)[0])
            for over in (Fraction(0), Fraction(1, source.randint(2, 9)), part / 3, part, 4 * part):
                more = self.check(program, times, part + over)
                seen[more] = seen.get(more, 0) + 1
        self.assertGreater(min(seen[more] for more in (0, 1, 2)), 20)

    def test_waiting_longer_for_one_another(self):
        for program, times, part in GIVING_PACED:
            self.check(program, times, part, 4)
        source = random.Random(219)
        for _ in range(60):
            program = bound_program(source, source.randint(4, 6), source.randint(3, 6), source.randint(1, 2))
            if len(makers(program)) in (3, 4):
                times = tuple(source.choice((1, 2, 20)) for _ in range(program.steps))
                self.check(program, times, Fraction(*pace(program, times)[0]), 2)

    def test_paced_falls_with_the_part(self):
        source = random.Random(217)
        for program in few(drawn_programs(218, 60, 5, 6, 2) + [FOUR, T]):
            times = tuple(source.randint(1, 9) for _ in range(program.steps))
            part = Fraction(*pace(program, times)[0])
            sums = [least_paced(program, times, fraction(part * (4 + k) / 4))[0] for k in range(12)]
            self.assertEqual(sums, sorted(sums, reverse=True))
            # No ring through each step once takes more than all steps together.
            self.assertEqual(least_paced(program, times, (sum(times), 1))[0], least_short(program)[0])

    def test_great_numerators_and_bottoms(self):
        great = 10 ** 39
        for program, times in ((Q, (1, 2)), (T, (1, 5, 5, 1, 2, 1)), (FOUR, (3, 1, 4, 1, 5)), (LONE, (7,)), (FAR, (1, 2, 3))):
            part = Fraction(*pace(program, times)[0])
            self.assertEqual(least_paced(program, times, (great, great - 1)) is None, part > 1)
            self.assertEqual(least_paced(program, times, (great, 1))[0], least_short(program)[0])
            self.assertEqual(least_paced(program, times, (great - 1, 7))[0], least_short(program)[0])
            just_above = part + Fraction(1, great // 10 ** 6)
            self.check(program, times, just_above, 4)
            self.assertIsNone(least_paced(program, times, fraction(part - Fraction(1, great // 10 ** 6))))
            self.assertIsNone(least_paced(program, times, (1, great)))
            self.assertIsNone(least_paced(program, times, (-great, 1)))
        self.assertEqual(least_paced(Q, (1, 1), (great, great - 1))[0], 2)
        self.assertEqual(least_paced(Q, (1, 1), (2 * great + 1, great))[0], 1)
        self.assertEqual(least_paced(Q, (1, 1), (2 * great - 1, great))[0], 2)

    def test_errors(self):
        wrong_times = [None, (1, 1), (1, 1, 1, 1), [1, 1, 1], (0, 1, 1), (100, 1, 1), (True, 1, 1), (1, None, 1)]
        for times in wrong_times + odd_things():
            for part in ((6, 1), None):
                with self.assertRaises(NoTimes):
                    least_paced(P, times, part)
        for part in [(2, 2), (6, 0), (6, -1), [6, 1], (6,), 6, "6/1", (True, 1), (6, True), (0, 2), None] + odd_things():
            if type(part) is tuple and len(part) == 2 and all(type(one) is int for one in part):
                if part[1] >= 1 and gcd(*part) == 1:
                    continue
            with self.assertRaises(NoFraction):
                least_paced(P, (1, 2, 3), part)
        self.assertEqual(least_paced(P, (1, 2, 3), (6, 1))[0], 1)

    def test_order_of_errors(self):
        right = (1,) * 5
        for times, part, error in (
            ((1,), (2, 2), NoTimes), ((1,), (1, 1), NoTimes), (right, (2, 2), NoFraction), (right, (1, 1), TooMany),
            (right, (-1, 1), TooMany),
        ):
            with self.assertRaises(error) as caught:
                least_paced(FIVE, times, part)
            self.assertIs(type(caught.exception), error)
        self.assertEqual(caught.exception.most, 4)
        self.assertIsNone(least_paced(FOUR, right, (-1, 1)))
        with self.assertRaises(NoTimes):
            least_paced(FOUR, (1,), (2, 2))
        with self.assertRaises(NoFraction):
            least_paced(FOUR, right, (2, 2))

    def test_equal_calls_change_nothing(self):
        for program in few(NAMED):
            before = (program.steps, program.needs, program.befores)
            times = tuple(1 + step for step in range(program.steps))
            part = pace(program, times)[0]
            self.assertEqual(least_paced(program, times, part), least_paced(Program(*before), times, part))
            self.assertEqual((program.steps, program.needs, program.befores), before)


class Rounds(unittest.TestCase):
    """Rounds of four makers, some of which must come to so many together: the least sum of them all."""

    def test_against_all_rows(self):
        source = random.Random(220)
        seen = {}
        for _ in range(150):
            most = source.randint(1, 4)
            bounds = {places: source.choice((0, source.randint(0, most * len(places)))) for places in PLACES}
            least = min(
                sum(row) for row in product(range(2 * most + 3), repeat=4)
                if all(sum(row[place] for place in places) >= low for places, low in bounds.items())
            )
            row = least_rounds_over(bounds)
            self.assertEqual(sum(row), least, bounds)
            self.assertTrue(all(sum(row[place] for place in places) >= low for places, low in bounds.items()))
            more = least - max(bounds.values())
            seen[more] = seen.get(more, 0) + 1
        self.assertGreater(len(seen), 2)

    def test_each_two_of_three(self):
        """What each two of three come to is not enough by half where it is odd."""
        for few in combinations(range(4), 3):
            for low, least in ((1, 2), (2, 3), (3, 5), (4, 6)):
                bounds = {places: 0 for places in PLACES}
                bounds.update({pair: low for pair in combinations(few, 2)})
                row = least_rounds_over(bounds)
                self.assertEqual(sum(row), least)
                self.assertTrue(all(row[one] + row[other] >= low for one, other in combinations(few, 2)))


class BeyondTheBounds(unittest.TestCase):
    """Points 1.1 and 16.1: programs that were returned."""

    def test_rounds_and_steps(self):
        made = waiting(Q, ((0, 10 ** 39),))
        self.assertEqual(least_short(made), (1, ((0, 1),)))
        self.assertEqual(least_paced(made, (1, 2), (2, 1)), (2, ((0, 2),)))
        made = side_by_side(T, Program(12, (), ((0, 1, 0), (11, 2, 3))))
        self.assertEqual(least_short(made)[0], 2)
        self.assertEqual(least_paced(made, (1, 5, 5, 1, 1, 1) + (8,) * 12, (8, 1))[0], 2)

    def test_a_long_way(self):
        """A value that is wanted while hundreds of steps are done, which takes a cell for each of them."""
        made = Q
        for _ in range(25):
            made = side_by_side(made, Program(12, (), ()))
        steps = made.steps
        line = [(step, step + 1, 0) for step in range(2, steps - 1)]
        made = joined(made, line + [(0, 2, 0), (steps - 1, 1, 0)])
        self.assertEqual(least_paced(made, (1,) * steps, (1, 1)), (steps, ((0, steps),)))
        self.assertEqual(least_paced(made, (1,) * steps, (steps, 1)), (1, ((0, 1),)))


if __name__ == "__main__":
    unittest.main()
