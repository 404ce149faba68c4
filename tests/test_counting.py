import random
import unittest
from itertools import product
from math import comb, factorial

from aheadcells.counting import many_orders, numbered_order, order_number
from aheadcells.errors import NoCounts, NoNumber, NoOrder, TooMany
from aheadcells.joining import joined, side_by_side, unrolled
from aheadcells.orders import drawn_order
from aheadcells.paces import waiting
from aheadcells.programs import Program
from tests import reference
from tests.samples import BARE, FAR, GREAT, LONE, LOOSE, NAMED, P, Q, R, T, drawn_programs, odd_things, spoiled

FREE = Program(12, (), ())


def all_orders(program, counts):
    """All lawful orders in which each step is done just so often, ascending, by trying every step at each place."""
    found = []
    rows = [()]
    while rows:
        order = rows.pop()
        if len(order) == sum(counts):
            found.append(order)
        for step in reversed(range(program.steps)):
            if order.count(step) < counts[step] and step in reference.next_steps(program, order):
                rows.append(order + (step,))
    return found


def parts(program):
    return (program.steps, program.needs, program.befores)


class CountingTests(unittest.TestCase):
    """What the tests of point 18.1 have in common."""

    def check(self, program, counts):
        """Hold all three functions against all orders, and tell how many there are."""
        before = parts(program)
        orders = all_orders(program, counts)
        self.assertEqual(orders, sorted(orders))
        many = many_orders(program, counts)
        self.assertIs(type(many), int)
        self.assertEqual(many, len(orders))
        for number, order in enumerate(orders):
            self.assertEqual(numbered_order(program, counts, number), order)
            self.assertEqual(order_number(program, order), number)
        for number in (-1, many, many + 1, 10 ** 39):
            with self.assertRaises(NoNumber):
                numbered_order(program, counts, number)
        self.assertEqual(parts(program), before)
        return many


class Counting(CountingTests):
    """Point 18.1."""

    def test_ordinary(self):
        self.assertEqual(many_orders(P, (2, 2, 2)), 1)
        self.assertEqual(many_orders(Q, (2, 2)), 2)
        self.assertEqual(numbered_order(Q, (2, 2), 0), (0, 0, 1, 1))
        self.assertEqual(numbered_order(Q, (2, 2), 1), (0, 1, 0, 1))
        self.assertEqual(order_number(Q, (0, 1, 0, 1)), 1)
        self.assertEqual(self.check(R, (3, 3)), 4)
        self.assertEqual(self.check(P, (2, 2, 1)), 1)
        self.assertEqual(self.check(T, (2, 2, 1, 1, 1, 1)), len(all_orders(T, (2, 2, 1, 1, 1, 1))))

    def test_the_empty_order(self):
        for program in NAMED:
            counts = (0,) * program.steps
            self.assertEqual(self.check(program, counts), 1)
            self.assertEqual(numbered_order(program, counts, 0), ())
            self.assertEqual(order_number(program, ()), 0)

    def test_counts_that_no_order_has(self):
        for program, counts in (
            (Q, (0, 1)), (Q, (2, 3)), (R, (3, 0)), (P, (0, 1, 0)), (P, (2, 0, 0)), (P, (1, 1, 2)), (R, (60, 57)),
            (T, (1, 0, 0, 1, 0, 0)), (Q, (0, 60)), (BARE, (0, 2)), (LOOSE, (0, 0, 0, 0, 1)),
        ):
            self.assertEqual(many_orders(program, counts), 0, counts)
            for number in (0, 1, -1):
                with self.assertRaises(NoNumber):
                    numbered_order(program, counts, number)

    def test_all_small_counts(self):
        for program in (P, Q, R, BARE, FAR):
            for counts in product(range(4), repeat=program.steps):
                self.check(program, counts)
        for program in (T, LOOSE):
            for counts in product(range(2), repeat=program.steps):
                self.check(program, counts)

    def test_drawn(self):
        source = random.Random(231)
        zero = 0
        for program in drawn_programs(232, 150, 4, 5, 3):
            for _ in range(3):
                order = drawn_order(program, [source.randrange(60) for _ in range(source.randint(0, 7))])
                counts = tuple(order.count(step) for step in range(program.steps))
                self.assertGreater(self.check(program, counts), 0)
                zero += self.check(program, tuple(source.randint(0, 2) for _ in range(program.steps))) == 0
        self.assertGreater(zero, 50)

    def test_great_counts(self):
        # Without links all ways to put them one behind another; with a need those in which it is never ahead.
        two = Program(2, (), ())
        for one, other in ((60, 60), (0, 60), (17, 43)):
            self.assertEqual(many_orders(two, (one, other)), comb(one + other, one))
        self.assertEqual(many_orders(Q, (60, 60)), comb(120, 60) // 61)
        many = many_orders(two, (60, 60))
        last = (1,) * 60 + (0,) * 60
        self.assertEqual(numbered_order(two, (60, 60), many - 1), last)
        self.assertEqual(order_number(two, last), many - 1)
        self.assertEqual(numbered_order(two, (60, 60), 0), (0,) * 60 + (1,) * 60)
        with self.assertRaises(NoNumber):
            numbered_order(two, (60, 60), many)
        source = random.Random(233)
        for program, counts in ((two, (60, 60)), (Q, (60, 60)), (T, (3,) * 6), (Program(3, (), ()), (25, 25, 25))):
            many = many_orders(program, counts)
            numbers = sorted(source.randrange(many) for _ in range(20))
            orders = [numbered_order(program, counts, number) for number in numbers]
            self.assertEqual(orders, sorted(orders))
            for number, order in zip(numbers, orders):
                self.assertTrue(reference.is_lawful(program, order))
                self.assertEqual(tuple(order.count(step) for step in range(program.steps)), counts)
                self.assertEqual(order_number(program, order), number)

    def test_just_20000_and_more(self):
        just = (1,) * 5 + (4,) * 4 + (0,) * 3
        self.assertEqual(many_orders(FREE, just), factorial(21) // factorial(4) ** 4)
        self.assertEqual(len(numbered_order(FREE, just, 0)), 21)
        # 20010, 20020, 20480 and many more states.
        for counts in ((1, 2, 4, 22, 28) + (0,) * 7, (0,) * 7 + (3, 4, 6, 10, 12), (1,) * 10 + (4, 3), (60,) * 12):
            order = tuple(step for step, count in enumerate(counts) for _ in range(count))
            calls = [lambda: many_orders(FREE, counts), lambda: numbered_order(FREE, counts, 0),
                     lambda: numbered_order(FREE, counts, None), lambda: order_number(FREE, order)]
            for call in calls:
                with self.assertRaises(TooMany) as caught:
                    call()
                self.assertEqual(caught.exception.most, 20000)

    def test_order_number_of_more_than_sixty(self):
        one = Program(1, (), ())
        self.assertEqual(order_number(one, (0,) * 400), 0)
        with self.assertRaises(NoCounts):
            many_orders(one, (61,))
        two = Program(2, (), ())
        self.assertEqual(order_number(two, (1,) + (0,) * 399), comb(400, 1) - 1)
        self.assertEqual(order_number(Q, (0,) * 200 + (1,) * 90), 0)
        with self.assertRaises(TooMany):
            order_number(Q, (0,) * 200 + (1,) * 100)

    def test_errors(self):
        wrong = [None, (1, 1), (1, 1, 1, 1), [1, 1, 1], (1, 1, -1), (1, 1, 61), (True, 1, 1), (1, 1, "1"), (1, 1, None),
                 (1, 1, 10 ** 39), {0: 1, 1: 1, 2: 1}, ((1,), 1, 1), (), 3]
        for thing in wrong + odd_things():
            for call in (lambda: many_orders(P, thing), lambda: numbered_order(P, thing, 0),
                         lambda: numbered_order(P, thing, None)):
                with self.assertRaises(NoCounts):
                    call()
        for thing in odd_things() + [True, False, None, -1, 1, "0", (0,), 10 ** 39, -(10 ** 39)]:
            with self.assertRaises(NoNumber):
                numbered_order(P, (1, 1, 1), thing)
        for thing in spoiled((1, 0, 2)):
            right = type(thing) is tuple and [type(part) for part in thing] == [int] * 3 and all(
                0 <= part <= 60 for part in thing)
            if right:
                self.assertIs(type(many_orders(P, thing)), int)
            else:
                with self.assertRaises(NoCounts):
                    many_orders(P, thing)

    def test_no_order(self):
        for thing in odd_things() + [(0, 0), (1,), (0, 2), [0, 1], (0, True), (0, 3), (0, -1), "01"]:
            if thing == ():
                continue
            with self.assertRaises(NoOrder):
                order_number(P, thing)
        # An order that is not lawful, and too great besides.
        with self.assertRaises(NoOrder):
            order_number(Q, (1,) + (0,) * 200 + (1,) * 150)
        with self.assertRaises(NoOrder):
            order_number(FREE, tuple(range(12)) * 3 + (12,))

    def test_order_of_errors(self):
        for counts, number, error in (
            ((60,) * 11 + (61,), -1, NoCounts), ((60,) * 12, -1, TooMany), ((1,) * 12, -1, NoNumber),
        ):
            with self.assertRaises(error) as caught:
                numbered_order(FREE, counts, number)
            self.assertIs(type(caught.exception), error)

    def test_equal_calls(self):
        for program in NAMED:
            counts = (1,) * program.steps
            twin = Program(*parts(program))
            self.assertEqual(many_orders(program, counts), many_orders(twin, counts))
            if many_orders(program, counts):
                self.assertEqual(numbered_order(program, counts, 0), numbered_order(twin, counts, 0))
                self.assertIs(type(numbered_order(program, counts, 0)), tuple)


class BeyondTheBounds(CountingTests):
    """Points 1.1 and 18.1: programs that were returned."""

    def test_more_than_twelve_steps(self):
        wide = side_by_side(GREAT, P)
        self.assertEqual(self.check(wide, (1,) + (0,) * 11 + (1, 1, 0)), 3)
        self.assertEqual(self.check(unrolled(R, 6), (1, 1) + (0,) * 4 + (1, 1) + (0,) * 4), 2)
        row = unrolled(T, 3)
        self.assertEqual(self.check(row, (1,) * 4 + (0, 0) + (1,) * 3 + (0,) * 9), len(
            all_orders(row, (1,) * 4 + (0, 0) + (1,) * 3 + (0,) * 9)))
        with self.assertRaises(NoCounts):
            many_orders(wide, (1,) * 12)
        with self.assertRaises(TooMany):
            many_orders(wide, (1,) * 15)
        self.assertEqual(many_orders(unrolled(R, 6), (1,) * 12), comb(12, 6) // 7 - sum(
            1 for order in all_orders(Q, (6, 6)) if not reference.is_lawful(R, order)))

    def test_more_links_and_rounds(self):
        many = tuple((one, other, 6) for one in range(12) for other in range(12))
        self.assertEqual(self.check(joined(FREE, many), (1, 1, 1) + (0,) * 9), 6)
        self.assertEqual(many_orders(waiting(Q, ((0, 10 ** 39),)), (60, 60)), comb(120, 60) // 61)
        self.assertEqual(self.check(waiting(Q, ((0, 9),)), (3, 3)), 5)
        self.assertEqual(many_orders(waiting(Q, ((0, 9),)), (11, 1)), 0)
        self.assertGreater(many_orders(waiting(Q, ((0, 9),)), (10, 1)), 0)

    def test_many_steps(self):
        program = LONE
        for _ in range(10):
            program = side_by_side(program, program)
        counts = (1, 0) * 6 + (0,) * 1006 + (1, 2, 1, 0, 0, 0)
        self.assertEqual(many_orders(program, counts), factorial(10) // 2)
        self.assertEqual(numbered_order(program, counts, 0), (0, 2, 4, 6, 8, 10, 1018, 1019, 1019, 1020))


if __name__ == "__main__":
    unittest.main()
