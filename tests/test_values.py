import random
import unittest

from aheadcells.errors import NoMaker, NoValue
from aheadcells.programs import Program, makers
from aheadcells.values import apart, clash, distance, distances, is_clash
from tests import reference
from tests.samples import BARE, FAR, LONE, LOOSE, NAMED, P, Q, R, T, drawn_programs, odd_things, spoiled


def is_clash_by_words(program, first, second, thing):
    if type(thing) is not tuple or not all(type(step) is int and step in range(program.steps) for step in thing):
        return False
    if not reference.is_lawful(program, thing):
        return False
    both = reference.wanted_values(program, thing)
    return first in both and second in both


class Distances(unittest.TestCase):
    """Point 4.1."""

    def test_ordinary(self):
        self.assertEqual(distances(P), ((1, 0, 0), (1, 1, 0), (1, 1, 1)))
        self.assertEqual(distances(Q), ((None,),))
        self.assertEqual(distances(R), ((2,),))
        self.assertEqual(distances(BARE), ())
        self.assertEqual(distances(LONE), ((3,),))
        self.assertEqual(distance(T, 0, 3), 1)
        self.assertEqual(distance(T, 3, 0), 1)
        self.assertEqual(distance(FAR, 0, 1), 2)

    def test_none_if_one_reader_has_no_way(self):
        program = Program(3, ((0, 1, 0), (0, 2, 0)), ((1, 0, 1),))
        self.assertIsNone(distance(program, 0, 0))
        self.assertEqual(distances(LOOSE)[2:], ((1, 1, None, 1), (1, 1, None, None)))
        self.assertEqual(distance(LOOSE, 3, 0), 1)

    def test_drawn(self):
        for program in drawn_programs(41, 80, 5, 7, 4) + list(NAMED):
            every = reference.maker_row(program)
            spans = reference.distance_dict(program)
            self.assertEqual(distances(program), tuple(tuple(spans[one, other] for other in every) for one in every))
            for one in every:
                for other in every:
                    self.assertEqual(distance(program, one, other), spans[one, other])

    def test_second_fact(self):
        """A value is made behind all readings of another one, or by the last, exactly from the distance on."""
        for program in drawn_programs(42, 40):
            every = list(reference.states(program, 6))
            for one in makers(program):
                for other in makers(program):
                    span = distance(program, one, other)
                    read = [(reader, rounds) for maker, reader, rounds in program.needs if maker == one]
                    for number in (1, 2, 3, 4):
                        # The value (one, 1): what is done when the other one's value has just been made.
                        sure = all(
                            counts[reader] >= 1 + rounds
                            for counts in every if counts[other] >= number
                            for reader, rounds in read
                        )
                        self.assertEqual(sure, span is not None and number - 1 >= span)

    def test_no_maker(self):
        for thing in odd_things() + [1, 2, 5, 6]:
            for pair in ((thing, 0), (0, thing), (thing, None)):
                with self.assertRaises(NoMaker):
                    distance(T, *pair)


class Clashes(unittest.TestCase):
    """Point 4.2."""

    def test_ordinary(self):
        self.assertEqual(apart(T, (0, 1), (3, 1)), "clash")
        self.assertEqual(apart(T, (0, 1), (3, 2)), "first")
        self.assertEqual(apart(T, (3, 2), (0, 1)), "second")
        self.assertEqual(apart(P, (0, 1), (1, 1)), "first")
        self.assertIsNone(clash(P, (0, 1), (1, 1)))
        order = clash(T, (0, 1), (3, 1))
        self.assertTrue(is_clash_by_words(T, (0, 1), (3, 1), order))

    def test_values_of_one_step(self):
        self.assertEqual(apart(R, (0, 1), (0, 2)), "clash")
        self.assertEqual(apart(R, (0, 1), (0, 3)), "first")
        self.assertEqual(apart(R, (0, 3), (0, 1)), "second")
        self.assertEqual(apart(Q, (0, 1), (0, 200)), "clash")
        self.assertTrue(is_clash_by_words(Q, (0, 200), (0, 1), clash(Q, (0, 200), (0, 1))))

    def test_by_all_orders(self):
        found = {"first": 0, "second": 0, "clash": 0}
        for program in drawn_programs(43, 60) + [P, Q, R, T, LONE]:
            top = 4 if program.steps < 4 else 2
            both = reference.clashing(program, top)
            values = [(maker, number) for maker in makers(program) for number in range(1, top + 1)]
            for first in values:
                for second in values:
                    if first == second:
                        continue
                    told = apart(program, first, second)
                    found[told] += 1
                    self.assertEqual(told == "clash", (first, second) in both)
                    if told == "first":
                        self.check_behind(program, top, first, second)
                    if told == "second":
                        self.check_behind(program, top, second, first)
                    order = clash(program, first, second)
                    self.assertEqual(order is None, told != "clash")
                    if order is not None:
                        self.assertIs(type(order), tuple)
                        self.assertTrue(is_clash_by_words(program, first, second, order))
                        self.assertIs(is_clash(program, first, second, order), True)
        self.assertGreater(min(found.values()), 100)

    def check_behind(self, program, top, first, second):
        for counts in reference.states(program, top):
            if counts[second[0]] >= second[1]:
                for maker, reader, rounds in program.needs:
                    if maker == first[0]:
                        self.assertGreaterEqual(counts[reader], first[1] + rounds)

    def test_readings_ahead_of_round_one(self):
        program = Program(2, ((0, 1, 3),), ((1, 0, 1),))
        for number in (2, 3, 4):
            order = clash(program, (0, 1), (0, number))
            self.assertTrue(is_clash_by_words(program, (0, 1), (0, number), order))
        self.assertIsNone(clash(program, (0, 1), (0, 5)))

    def test_great_rounds(self):
        great = 10 ** 39
        self.assertEqual(apart(R, (0, great), (0, great + 1)), "clash")
        self.assertEqual(apart(R, (0, great), (0, great + 2)), "first")
        self.assertEqual(apart(R, (0, great), (0, 1)), "second")
        self.assertEqual(apart(Q, (0, great), (0, 1)), "clash")

    def test_judging(self):
        order = (0, 1, 3)
        judged = {True: 0, False: 0}
        for thing in spoiled(order) + odd_things() + [order, list(order), (0, 1, 3, 2), (0, 2, 1, 4, 3), (0, 1, 2, 3)]:
            found = is_clash(T, (0, 1), (3, 1), thing)
            self.assertIs(found, is_clash_by_words(T, (0, 1), (3, 1), thing))
            judged[found] += 1
        self.assertGreater(judged[True], 0)
        self.assertGreater(judged[False], 50)
        self.assertIs(is_clash(P, (0, 1), (1, 1), (0, 1)), False)
        self.assertIs(is_clash(T, (0, 1), (3, 1), (0, 1, 3, 2)), False)

    def test_no_value(self):
        right = (0, 1)
        wrong = odd_things() + [(1, 1), (6, 1), (0, 0), (0, -1), (0, True), (False, 1), [0, 1], (0, 1, 1), 0]
        for thing in wrong:
            if type(thing) is tuple and thing == right:
                continue
            for pair in ((thing, right), (right, thing), (thing, thing)):
                for call in (apart, clash):
                    with self.assertRaises(NoValue):
                        call(T, *pair)
                with self.assertRaises(NoValue):
                    is_clash(T, *pair, None)
        for call in (apart, clash):
            with self.assertRaises(NoValue):
                call(T, right, right)
        with self.assertRaises(NoValue):
            is_clash(T, right, right, ())

    def test_equal_calls(self):
        source = random.Random(44)
        for program in drawn_programs(45, 30):
            every = makers(program)
            if every:
                first, second = (source.choice(every), 1), (source.choice(every), 2)
                twin = Program(program.steps, program.needs, program.befores)
                self.assertEqual(clash(program, first, second), clash(twin, first, second))


if __name__ == "__main__":
    unittest.main()
