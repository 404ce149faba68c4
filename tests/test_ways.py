import random
import unittest

from aheadcells.errors import NoDoing, NoNumber, NoStep
from aheadcells.programs import Program
from aheadcells.ways import is_way, least_rounds, least_way, loose_order, needless, surely
from tests import reference
from tests.samples import BARE, FAR, LONE, LOOSE, NAMED, P, Q, R, T, drawn_programs, odd_things, spoiled


def way_ends(program, start, thing):
    """Where a thing leads from a step, and over how many rounds; None if it is no way (3.1)."""
    if type(thing) is not tuple:
        return None
    total = 0
    for told in thing:
        if type(told) is not tuple or len(told) != 2 or type(told[0]) is not str or type(told[1]) is not int:
            return None
        rows = {
            "need": program.needs, "before": program.befores,
            "turn": tuple((step, step, 1) for step in range(program.steps)),
        }
        if told[0] not in rows or told[1] not in range(len(rows[told[0]])):
            return None
        one, other, rounds = rows[told[0]][told[1]]
        if one != start:
            return None
        start = other
        total += rounds
    return start, total


class Least(unittest.TestCase):
    """Point 3.1: least rounds and ways."""

    def test_ordinary(self):
        self.assertEqual(least_rounds(P, 2, 1), 1)
        self.assertEqual(least_rounds(P, 0, 2), 0)
        self.assertEqual(least_rounds(FAR, 0, 2), 6)
        self.assertEqual(least_rounds(FAR, 2, 0), 4)
        self.assertEqual(least_way(FAR, 0, 1), (("need", 1),))
        self.assertEqual(least_way(FAR, 2, 0), (("before", 1), ("before", 0)))

    def test_a_step_and_itself(self):
        for program in NAMED:
            for step in range(program.steps):
                self.assertEqual(least_rounds(program, step, step), 0)
                self.assertEqual(least_way(program, step, step), ())

    def test_no_way(self):
        self.assertIsNone(least_rounds(Q, 1, 0))
        self.assertIsNone(least_way(Q, 1, 0))
        self.assertIsNone(least_rounds(LOOSE, 3, 2))

    def test_drawn(self):
        for program in drawn_programs(31, 60, 5, 6, 4) + list(NAMED):
            least = reference.least_sums(program)
            for one in range(program.steps):
                for other in range(program.steps):
                    self.assertEqual(least_rounds(program, one, other), least.get((one, other)))
                    way = least_way(program, one, other)
                    self.assertEqual(way is None, (one, other) not in least)
                    if way is not None:
                        self.assertEqual(way_ends(program, one, way), (other, least[one, other]))

    def test_no_step(self):
        for thing in odd_things() + [3]:
            for pair in ((thing, 0), (0, thing), (thing, None)):
                for call in (least_rounds, least_way):
                    with self.assertRaises(NoStep):
                        call(P, *pair)


class Ways(unittest.TestCase):
    """Point 3.1: what is a way."""

    def test_ordinary(self):
        self.assertTrue(is_way(P, 0, 2, 0, (("need", 0), ("need", 1))))
        self.assertFalse(is_way(P, 0, 2, 1, (("need", 0), ("need", 1))))
        self.assertFalse(is_way(P, 0, 1, 0, (("need", 0), ("need", 1))))
        self.assertFalse(is_way(P, 1, 2, 0, (("need", 0), ("need", 1))))
        self.assertFalse(is_way(P, 0, 2, 0, (("need", 1), ("need", 0))))
        self.assertFalse(is_way(P, 0, 2, 0, [("need", 0), ("need", 1)]))
        self.assertFalse(is_way(P, 0, 2, 0, (["need", 0], ("need", 1))))
        self.assertFalse(is_way(P, 0, 1, 0, (("need", False),)))
        self.assertFalse(is_way(P, 0, 1, 0, (("before", 0),)))
        self.assertTrue(is_way(R, 1, 0, 2, (("before", 0),)))
        self.assertFalse(is_way(R, 1, 0, 2, (("need", 0),)))
        for word in ("", "link", "befor", "Before", b"before", None, True, 0, ("before",)):
            self.assertFalse(is_way(R, 1, 0, 2, ((word, 0),)))
            self.assertFalse(is_way(R, 0, 1, 0, ((word, 0),)))

    def test_empty_way(self):
        self.assertTrue(is_way(P, 1, 1, 0, ()))
        self.assertFalse(is_way(P, 1, 1, 1, ()))
        self.assertFalse(is_way(P, 1, 0, 0, ()))

    def test_turns_and_rings(self):
        self.assertTrue(is_way(P, 0, 1, 3, (("turn", 0), ("turn", 0), ("need", 0), ("turn", 1))))
        self.assertFalse(is_way(P, 0, 1, 1, (("turn", 1), ("need", 0))))
        self.assertFalse(is_way(P, 0, 0, 1, (("turn", False),)))
        self.assertFalse(is_way(P, 0, 0, 1, (("turn", 3),)))
        self.assertFalse(is_way(P, 0, 0, 1, (("turn", -3),)))
        self.assertTrue(is_way(P, 0, 0, 1, (("need", 0), ("need", 1), ("need", 2))))
        self.assertTrue(is_way(LONE, 0, 0, 4, (("need", 0), ("need", 1))))
        self.assertFalse(is_way(LONE, 0, 0, 3, (("need", -1),)))

    def test_spoiled(self):
        way = (("need", 0), ("turn", 1), ("need", 1), ("need", 2), ("turn", 0))
        self.assertTrue(is_way(P, 0, 0, 3, way))
        judged = {True: 0, False: 0}
        for thing in spoiled(way):
            for rounds in (2, 3, 4):
                for other in (0, 1):
                    found = is_way(P, 0, other, rounds, thing)
                    self.assertIs(found, way_ends(P, 0, thing) == (other, rounds))
                    judged[found] += 1
        self.assertGreater(judged[True], 1)
        self.assertGreater(judged[False], 100)

    def test_wrong_inputs(self):
        for thing in odd_things() + [3]:
            for pair in ((thing, 0), (0, thing), (thing, None)):
                with self.assertRaises(NoStep):
                    is_way(P, *pair, None, None)
        for thing in odd_things():
            with self.assertRaises(NoNumber):
                is_way(P, 0, 0, thing, ())
            self.assertIs(is_way(P, 0, 0, 0, thing), type(thing) is tuple and thing == ())
            self.assertIs(is_way(P, 0, 1, 0, (("need", 0), thing)), False)
        self.assertFalse(is_way(P, 0, 0, 10 ** 39, ()))


class Surely(unittest.TestCase):
    """Point 3.2: what is surely behind."""

    def test_ordinary(self):
        self.assertTrue(surely(P, (0, 1), (1, 1)))
        self.assertFalse(surely(P, (1, 1), (0, 1)))
        self.assertTrue(surely(P, (1, 1), (0, 2)))
        self.assertTrue(surely(P, (0, 1), (0, 2)))
        self.assertFalse(surely(P, (0, 1), (0, 1)))
        self.assertFalse(surely(P, (0, 2), (0, 1)))
        self.assertFalse(surely(Q, (1, 1), (0, 50)))

    def test_by_all_orders(self):
        for program in drawn_programs(32, 40) + [P, Q, R, BARE, LONE]:
            every = list(reference.states(program, 4))
            doings = [(step, number) for step in range(program.steps) for number in range(1, 5)]
            for first in doings:
                for second in doings:
                    told = first != second and not any(
                        counts[second[0]] >= second[1] and counts[first[0]] < first[1] for counts in every
                    )
                    self.assertIs(surely(program, first, second), told)
                    self.check_loose(program, first, second, told)

    def check_loose(self, program, first, second, told):
        order = loose_order(program, first, second)
        self.assertEqual(order is None, told or first == second)
        if order is not None:
            self.assertIs(type(order), tuple)
            self.assertTrue(reference.is_lawful(program, order))
            done = reference.doings_of(order)
            self.assertIn(second, done)
            self.assertNotIn(first, done[:done.index(second)])

    def test_great_rounds(self):
        great = 10 ** 39
        for number in (great, great + 1, great * 9):
            self.assertTrue(surely(R, (1, number), (0, number + 2)))
            self.assertFalse(surely(R, (1, number), (0, number + 1)))
            self.assertTrue(surely(R, (0, number), (0, number + 1)))
            self.assertFalse(surely(R, (0, number), (0, number)))
            self.assertTrue(surely(T, (0, 1), (5, number)))
            self.assertFalse(surely(Q, (1, 1), (0, number)))
            self.assertIsNone(loose_order(T, (0, 1), (5, number)))

    def test_late_orders(self):
        for program in (P, R, T, FAR):
            self.check_loose(program, (1, 200), (0, 200), surely(program, (1, 200), (0, 200)))
            self.check_loose(program, (0, 200), (1, 198), surely(program, (0, 200), (1, 198)))

    def test_no_doing(self):
        right = (0, 1)
        wrong = odd_things() + [(3, 1), (0, 0), (0, -1), (True, 1), (0, True), [0, 1], (0, 1, 1), (0,), (0, "1"), 1]
        for thing in wrong:
            if type(thing) is tuple and thing == right:
                continue
            for pair in ((thing, right), (right, thing), (thing, thing)):
                for call in (surely, loose_order):
                    with self.assertRaises(NoDoing):
                        call(P, *pair)


class Needless(unittest.TestCase):
    """Point 3.2: befores that can be left out."""

    def test_ordinary(self):
        self.assertEqual(needless(P), [])
        self.assertEqual(needless(Program(2, ((0, 1, 0),), ((0, 1, 0), (1, 0, 1), (0, 1, 1)))), [0, 2])
        # Each of the two would do; the last one goes.
        self.assertEqual(needless(Program(3, (), ((0, 1, 1), (1, 2, 0), (0, 2, 1), (0, 2, 2)))), [2, 3])
        self.assertEqual(needless(Program(3, (), ((0, 1, 0), (1, 2, 0), (0, 2, 0), (2, 0, 1)))), [2])
        self.assertEqual(needless(Program(1, (), ((0, 0, 1), (0, 0, 6)))), [0, 1])
        self.assertEqual(needless(Program(2, ((0, 1, 2),), ((0, 1, 1),))), [])

    def test_by_the_words(self):
        found = 0
        for program in drawn_programs(33, 80, 4, 7, 2):
            least = reference.least_sums(program)
            out = []
            for number in reversed(range(len(program.befores))):
                rest = [link for at, link in enumerate(program.befores) if at != number and at not in out]
                if reference.least_sums(Program(program.steps, program.needs, tuple(rest))) == least:
                    out.append(number)
            self.assertEqual(needless(program), sorted(out))
            found += len(out)
        self.assertGreater(found, 20)

    def test_new_lists(self):
        program = Program(1, (), ((0, 0, 1),))
        needless(program).append(7)
        self.assertEqual(needless(program), [0])


class Same(unittest.TestCase):
    """Point 0.4."""

    def test_equal_calls(self):
        source = random.Random(34)
        for program in drawn_programs(35, 20):
            one, other = source.randrange(program.steps), source.randrange(program.steps)
            twin = Program(program.steps, program.needs, program.befores)
            self.assertEqual(least_way(program, one, other), least_way(twin, one, other))
            self.assertEqual(loose_order(program, (one, 2), (other, 3)), loose_order(twin, (one, 2), (other, 3)))
            self.assertEqual(needless(program), needless(twin))


if __name__ == "__main__":
    unittest.main()
