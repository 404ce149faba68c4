import random
import unittest

from aheadcells.errors import NoNumber
from aheadcells.followings import (
    crowd,
    crowd_of,
    following,
    is_crowd,
    is_following,
    is_lot,
    least_cells,
    lot,
)
from aheadcells.programs import Program
from tests import reference
from tests.samples import (
    BARE, FAR, GREAT, LONE, LOOSE, NAMED, P, Q, R, T, bound_program, drawn_programs, odd_things, spoiled,
)


def is_int(thing):
    return type(thing) is int


def is_value_by_words(program, thing):
    return (
        type(thing) is tuple and len(thing) == 2 and is_int(thing[0]) and is_int(thing[1])
        and thing[0] in reference.maker_row(program) and thing[1] >= 1
    )


def is_following_by_words(program, thing):
    every = reference.maker_row(program)
    if type(thing) is not tuple or len(thing) != len(every):
        return False
    for pair in thing:
        if type(pair) is not tuple or len(pair) != 2 or not is_int(pair[0]) or not is_int(pair[1]):
            return False
    if sorted(pair[0] for pair in thing) != every:
        return False
    spans = [reference.distance_of(program, maker, pair[0]) for maker, pair in zip(every, thing)]
    return None not in spans and all(pair[1] >= span for pair, span in zip(thing, spans))


def is_crowd_by_words(program, thing):
    if type(thing) is not list or not all(is_value_by_words(program, value) for value in thing):
        return False
    spans = reference.distance_dict(program)
    pairs = [(first, second) for at, first in enumerate(thing) for second in thing[at + 1:]]
    return all(first != second and reference.values_clash(spans, first, second) for first, second in pairs)


def is_lot_by_words(program, thing):
    every = reference.maker_row(program)
    if type(thing) is not tuple or len(thing) != 2:
        return False
    for part in thing:
        if type(part) is not tuple or not all(is_int(maker) and maker in every for maker in part):
            return False
        if any(one >= other for one, other in zip(part, part[1:])):
            return False
    led = {other for one in thing[0] for other in every if reference.distance_of(program, one, other) is not None}
    return len(thing[0]) > len(thing[1]) and led <= set(thing[1])


class LeastCells(unittest.TestCase):
    """Points 5.1 and 5.2: the least sum, with what shows that it is enough and that it takes as many."""

    def check(self, program):
        least = least_cells(program)
        row = following(program)
        if least is None:
            self.assertIsNone(row)
            self.assertIsNone(crowd(program))
            self.assertTrue(is_lot_by_words(program, lot(program)))
            self.assertIs(is_lot(program, lot(program)), True)
            return None
        self.assertIs(type(least), int)
        self.assertIsNone(lot(program))
        self.assertTrue(is_following_by_words(program, row))
        self.assertIs(is_following(program, row), True)
        for maker, (follower, rounds) in zip(reference.maker_row(program), row):
            self.assertEqual(rounds, reference.distance_of(program, maker, follower))
        self.assertEqual(sum(rounds for follower, rounds in row), least)
        values = crowd(program)
        self.assertEqual(len(values), least)
        self.assertTrue(is_crowd_by_words(program, values))
        self.assertIs(is_crowd(program, values), True)
        return least

    def test_ordinary(self):
        self.assertEqual([self.check(program) for program in NAMED], [1, None, 2, 3, 0, 3, 13, None])

    def test_against_all_choices_of_followers(self):
        several = 0
        for program in drawn_programs(51, 150, 4, 5, 3):
            self.assertEqual(self.check(program), reference.least_following_sum(program))
        source = random.Random(52)
        for _ in range(60):
            program = bound_program(source, source.randint(2, 5), 6, 3)
            least = self.check(program)
            self.assertEqual(least, reference.least_following_sum(program))
            every = reference.maker_row(program)
            several += least < sum(reference.distance_of(program, maker, maker) for maker in every)
        self.assertGreater(several, 20)

    def test_great_programs(self):
        source = random.Random(53)
        for _ in range(10):
            self.check(bound_program(source, 12, 30, 6))

    def test_crowds_are_wanted_by_words(self):
        for program in drawn_programs(54, 60, 3, 3, 1):
            values = crowd(program)
            if values is None:
                continue
            top = max([number for maker, number in values], default=1)
            if top > 5:
                continue
            both = reference.clashing(program, top)
            for first in values:
                for second in values:
                    self.assertTrue(first == second or (first, second) in both)

    def test_without_makers(self):
        self.assertEqual(least_cells(BARE), 0)
        self.assertEqual(following(BARE), ())
        self.assertEqual(crowd(BARE), [])
        self.assertEqual(crowd_of(BARE, 0), [])
        self.assertIsNone(lot(BARE))

    def test_with_one_maker(self):
        self.assertEqual(following(R), ((0, 2),))
        self.assertEqual(lot(Q), ((0,), ()))

    def test_lot_with_some_behind(self):
        program = Program(3, ((0, 1, 0), (1, 2, 0), (2, 2, 1)), ((2, 1, 1),))
        self.assertIsNone(self.check(program))
        self.assertIsNone(self.check(LOOSE))

    def test_new_lists(self):
        crowd(T).append((0, 9))
        self.assertEqual(len(crowd(T)), 3)
        crowd_of(T, 2).clear()
        self.assertEqual(len(crowd_of(T, 2)), 2)
        self.assertIs(type(crowd(T)), list)

    def test_equal_calls(self):
        for program in drawn_programs(55, 40):
            twin = Program(program.steps, program.needs, program.befores)
            self.assertEqual(following(program), following(twin))
            self.assertEqual(crowd(program), crowd(twin))
            self.assertEqual(lot(program), lot(twin))


class CrowdsOf(unittest.TestCase):
    """Point 5.2: crowds of told numbers."""

    def check(self, program, many):
        values = crowd_of(program, many)
        self.assertEqual(len(values), many)
        self.assertTrue(is_crowd_by_words(program, values))

    def test_numbers(self):
        for program in (P, R, T, FAR, LONE):
            least = least_cells(program)
            for many in range(least + 1):
                self.check(program, many)
            for many in (least + 1, 200, 201, 10 ** 39, -1):
                with self.assertRaises(NoNumber):
                    crowd_of(program, many)

    def test_lots(self):
        for program in (Q, LOOSE):
            for many in (0, 1, 2, 17, 200):
                self.check(program, many)
            for many in (-1, 201, 10 ** 39):
                with self.assertRaises(NoNumber):
                    crowd_of(program, many)

    def test_great_least_cells(self):
        self.assertEqual(least_cells(GREAT), 252)
        self.assertEqual(len(crowd(GREAT)), 252)
        self.assertTrue(is_crowd_by_words(GREAT, crowd(GREAT)))
        self.check(GREAT, 200)
        self.check(GREAT, 31)
        with self.assertRaises(NoNumber):
            crowd_of(GREAT, 201)

    def test_no_number(self):
        for thing in odd_things():
            for program in (Q, T, BARE):
                with self.assertRaises(NoNumber):
                    crowd_of(program, thing)


class Judges(unittest.TestCase):
    """Points 5.1, 5.2 and 0.3: the functions that judge."""

    def check(self, judge, words, program, things):
        judged = {True: 0, False: 0}
        for thing in things:
            found = judge(program, thing)
            self.assertIs(found, words(program, thing), repr(thing)[:200])
            judged[found] += 1
        return judged

    def test_followings(self):
        for program in NAMED:
            if following(program) is not None:
                things = spoiled(following(program)) + [following(program)]
                judged = self.check(is_following, is_following_by_words, program, things)
                self.assertGreater(judged[True], 0)
                self.assertGreater(judged[False], 6)
        self.assertTrue(is_following(R, ((0, 10 ** 39),)))
        self.assertFalse(is_following(R, ((0, 1),)))
        self.assertFalse(is_following(P, ((0, 9), (0, 9), (2, 9))))
        self.assertFalse(is_following(Q, ((0, 9),)))
        self.assertTrue(is_following(P, ((0, 1), (2, 0), (1, 1))))
        self.assertFalse(is_following(P, [(0, 1), (2, 0), (1, 1)]))
        self.assertFalse(is_following(P, ((False, 1), (2, 0), (1, 1))))
        self.assertFalse(is_following(P, ((0, True), (2, 0), (1, 1))))

    def test_crowds(self):
        for program in NAMED:
            values = crowd(program)
            if values is None:
                values = crowd_of(program, 4)
            judged = self.check(is_crowd, is_crowd_by_words, program, spoiled(values) + [values, [], values[1:]])
            self.assertGreater(judged[True], 0)
            self.assertGreater(judged[False], 6)
        self.assertTrue(is_crowd(R, [(0, 8), (0, 7)]))
        self.assertFalse(is_crowd(R, [(0, 8), (0, 6)]))
        self.assertFalse(is_crowd(R, [(0, 8), (0, 8)]))
        self.assertFalse(is_crowd(R, ((0, 8), (0, 7))))

    def test_drawn_crowds(self):
        source = random.Random(56)
        judged = {True: 0, False: 0}
        for program in drawn_programs(57, 60):
            every = reference.maker_row(program)
            for _ in range(20 if every else 0):
                thing = [(source.choice(every), source.randint(1, 4)) for _ in range(source.randint(1, 3))]
                before = list(thing)
                found = is_crowd(program, thing)
                self.assertEqual(thing, before)
                self.assertIs(found, is_crowd_by_words(program, thing))
                judged[found] += 1
        self.assertGreater(min(judged.values()), 100)

    def test_lots(self):
        for program in (Q, LOOSE, Program(3, ((0, 1, 0), (1, 2, 0), (2, 2, 1)), ((2, 1, 1),))):
            judged = self.check(is_lot, is_lot_by_words, program, spoiled(lot(program)) + [lot(program)])
            self.assertGreater(judged[True], 0)
            self.assertGreater(judged[False], 10)
        parts = ((), (0,), (1,), (2,), (0, 1), (1, 0), (2, 2), (1, 2), (2, 3), (0, 1, 2), (0, 1, 2, 3), (0, 1, 3))
        pairs = [(one, other) for one in parts for other in parts]
        judged = self.check(is_lot, is_lot_by_words, LOOSE, pairs)
        self.assertEqual(judged[True], 2)
        self.check(is_lot, is_lot_by_words, P, pairs)
        self.assertFalse(is_lot(Q, ((0, 0), (0,))))
        self.assertFalse(is_lot(Q, ((False,), ())))

    def test_odd_things(self):
        for program in NAMED:
            self.check(is_following, is_following_by_words, program, odd_things())
            self.check(is_crowd, is_crowd_by_words, program, odd_things())
            self.check(is_lot, is_lot_by_words, program, odd_things())


if __name__ == "__main__":
    unittest.main()
