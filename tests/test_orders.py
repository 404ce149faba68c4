import random
import unittest

from aheadcells.errors import NoChoices, NoNumber, NoOrder, NoStep
from aheadcells.orders import ahead, ahead_order, can_be_done, drawn_order, fault, wanted
from aheadcells.programs import Program
from tests import reference
from tests.samples import BARE, FAR, LONE, NAMED, P, Q, R, T, drawn_programs, odd_things


def drawn_rows(source, program, many, most):
    return [
        tuple(source.randrange(program.steps) for _ in range(source.randint(0, most))) for _ in range(many)
    ]


class Faults(unittest.TestCase):
    """Point 2.1."""

    def test_ordinary(self):
        self.assertEqual(fault(P, (0, 1, 0)), 2)
        self.assertEqual(fault(P, (1,)), 0)
        self.assertIsNone(fault(P, (0, 1, 2, 0, 1, 2)))
        self.assertEqual(fault(P, (0, 1, 2, 0, 2)), 4)
        self.assertEqual(fault(R, (0, 0, 0)), 2)

    def test_empty_order(self):
        for program in NAMED:
            self.assertIsNone(fault(program, ()))
            self.assertEqual(wanted(program, ()), [])

    def test_links_ahead_of_round_one(self):
        program = Program(2, (), ((0, 1, 3),))
        self.assertIsNone(fault(program, (1, 1, 1)))
        self.assertEqual(fault(program, (1, 1, 1, 1)), 3)
        self.assertIsNone(fault(program, (1, 1, 1, 0, 1)))

    def test_links_to_itself(self):
        self.assertIsNone(fault(LONE, (0,) * 30))
        self.assertEqual(can_be_done(LONE, (0, 0)), (0,))

    def test_several_links_between_two_steps(self):
        program = Program(2, ((0, 1, 2), (0, 1, 1)), ((0, 1, 5),))
        self.assertEqual(fault(program, (1, 1)), 1)
        self.assertEqual(fault(program, (1, 0, 1, 1)), 3)

    def test_drawn(self):
        source = random.Random(21)
        for program in drawn_programs(22, 60) + list(NAMED):
            for order in drawn_rows(source, program, 20, 6):
                place = reference.first_fault(program, order)
                self.assertEqual(fault(program, order), place)
                if place is None:
                    self.assertEqual(can_be_done(program, order), reference.next_steps(program, order))
                    self.assertEqual(wanted(program, order), reference.wanted_values(program, order))
                else:
                    for call in (can_be_done, wanted):
                        with self.assertRaises(NoOrder):
                            call(program, order)

    def test_no_order(self):
        for thing in odd_things() + [[0], [0, 1, 2], (3,), (0, 1, 3), (0, 1, -1), (0, True), (0, 1, 2, False), 0]:
            if isinstance(thing, tuple) and thing == ():
                continue
            for call in (fault, can_be_done, wanted):
                with self.assertRaises(NoOrder):
                    call(P, thing)
        # A fault further ahead does not matter where something is no step.
        with self.assertRaises(NoOrder):
            fault(P, (2, 2, 2, 3))

    def test_next_steps(self):
        self.assertEqual(can_be_done(P, (0, 1)), (2,))
        self.assertEqual(can_be_done(T, ()), (0,))
        self.assertEqual(can_be_done(T, (0,)), (1, 2))
        self.assertEqual(can_be_done(Q, (0, 1)), (0,))
        for order in ((1,), (0, 1, 0)):
            with self.assertRaises(NoOrder):
                can_be_done(P, order)

    def test_long_orders(self):
        order = (0, 1, 2) * 1000
        self.assertIsNone(fault(P, order))
        self.assertEqual(fault(P, order + (2,)), 3000)
        self.assertEqual(can_be_done(P, order), (0,))


class Wanted(unittest.TestCase):
    """Point 2.2."""

    def test_ordinary(self):
        self.assertEqual(wanted(R, (0, 0)), [(0, 1), (0, 2)])
        self.assertEqual(wanted(R, (0, 0, 1)), [(0, 2)])
        self.assertEqual(wanted(P, (0, 1)), [(1, 1)])
        self.assertEqual(wanted(T, (0, 2, 4)), [(0, 1), (4, 1)])
        self.assertEqual(wanted(BARE, (0, 0, 1)), [])

    def test_readings_ahead_of_round_one(self):
        program = Program(2, ((0, 1, 2),), ())
        self.assertEqual(wanted(program, (1, 1)), [])
        self.assertEqual(wanted(program, (1, 1, 0)), [(0, 1)])
        self.assertEqual(wanted(program, (1, 0, 0, 0)), [(0, 1), (0, 2), (0, 3)])
        self.assertEqual(wanted(program, (1, 0, 1, 1, 0)), [(0, 2)])

    def test_values_of_one_step_read_by_itself(self):
        self.assertEqual(wanted(LONE, (0, 0, 0)), [(0, 1), (0, 2), (0, 3)])
        self.assertEqual(wanted(LONE, (0,) * 5), [(0, 3), (0, 4), (0, 5)])

    def test_new_lists(self):
        first = wanted(R, (0, 0))
        first.append((9, 9))
        self.assertEqual(wanted(R, (0, 0)), [(0, 1), (0, 2)])
        self.assertIs(type(first), list)


class Drawn(unittest.TestCase):
    """Point 2.2: drawn orders."""

    def test_by_the_words(self):
        source = random.Random(23)
        for program in drawn_programs(24, 30) + list(NAMED):
            choices = [source.choice((0, 1, 2, 7, 10 ** 39 + 1)) for _ in range(12)]
            order = ()
            for choice in choices:
                free = reference.next_steps(program, order)
                order += (free[choice % len(free)],)
            before = list(choices)
            self.assertEqual(drawn_order(program, choices), order)
            self.assertEqual(drawn_order(program, tuple(choices)), order)
            self.assertEqual(choices, before)

    def test_empty(self):
        self.assertEqual(drawn_order(T, []), ())
        self.assertEqual(drawn_order(T, ()), ())

    def test_many(self):
        order = drawn_order(T, list(range(400)))
        self.assertEqual(len(order), 400)
        self.assertTrue(reference.is_lawful(T, order))

    def test_no_choices(self):
        right = ((), [], [0], [0, 1])
        for thing in odd_things() + [(0, -1), [0, True], (1, 2, None), "01", range(3), {0: 1}, [[0]], 3, [0, 1, "2"]]:
            if isinstance(thing, (tuple, list)) and thing in right:
                continue
            with self.assertRaises(NoChoices):
                drawn_order(P, thing)


class Ahead(unittest.TestCase):
    """Point 2.3."""

    def test_ordinary(self):
        self.assertEqual(ahead(R, 0, 1), 2)
        self.assertIsNone(ahead(Q, 0, 1))
        self.assertEqual(ahead(Q, 1, 0), 0)
        self.assertEqual(ahead(P, 0, 0), 0)
        self.assertEqual(ahead(FAR, 0, 1), 3)
        self.assertIsNone(ahead(BARE, 0, 1))
        self.assertEqual(ahead(BARE, 1, 0), 1)

    def test_by_all_orders(self):
        for program in drawn_programs(25, 60):
            top = 6
            every = list(reference.states(program, top))
            for one in range(program.steps):
                for other in range(program.steps):
                    most = max(counts[one] - counts[other] for counts in every)
                    # Rounds are 2 at most, so with three steps a greatest number is below the bound.
                    self.assertEqual(ahead(program, one, other), None if most == top else most)

    def test_orders(self):
        for program in drawn_programs(26, 40) + list(NAMED):
            for one in range(program.steps):
                for other in range(program.steps):
                    most = ahead(program, one, other)
                    for number in (0, 1, 2, 3, 5, 200):
                        order = ahead_order(program, one, other, number)
                        self.assertEqual(order is None, most is not None and number > most)
                        if order is not None:
                            self.assertIs(type(order), tuple)
                            self.assertTrue(reference.is_lawful(program, order))
                            self.assertEqual(order.count(one) - order.count(other), number)

    def test_wrong_inputs(self):
        for thing in odd_things() + [3, 10 ** 39]:
            for pair in ((thing, 0), (0, thing), (thing, None)):
                with self.assertRaises(NoStep):
                    ahead(P, *pair)
                with self.assertRaises(NoStep):
                    ahead_order(P, *pair, None)
        for thing in odd_things() + [201, -1, 10 ** 39]:
            for program in (P, Q):
                with self.assertRaises(NoNumber):
                    ahead_order(program, 0, 1, thing)
        self.assertIsNotNone(ahead_order(Q, 0, 1, 200))
        self.assertIsNone(ahead_order(R, 0, 1, 200))


if __name__ == "__main__":
    unittest.main()
