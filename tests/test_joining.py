import random
import unittest

from aheadcells.errors import NoLinks, NoNumber, NoNumbers, Stuck
from aheadcells.followings import least_cells
from aheadcells.joining import joined, moved, side_by_side, unrolled
from aheadcells.programs import Program, makers
from tests import reference
from tests.samples import (
    BARE, FAR, GREAT, LONE, LOOSE, NAMED, P, Q, R, T, bound_program, drawn_programs, odd_things, spoiled,
)


def parts(program):
    return (program.steps, program.needs, program.befores)


class Joining(unittest.TestCase):
    """What the tests of point 10.1 have in common."""

    def check_parts(self, program, steps, needs, befores):
        self.assertIs(type(program), Program)
        self.assertEqual(parts(program), (steps, tuple(needs), tuple(befores)))
        self.assertTrue(type(program.needs) is tuple and type(program.befores) is tuple)
        self.assertTrue(all(type(link) is tuple for link in program.needs + program.befores))


class SideBySide(Joining):
    """Point 10.1: side_by_side."""

    def check(self, one, other):
        before = (parts(one), parts(other))
        made = side_by_side(one, other)
        self.check_parts(
            made, one.steps + other.steps,
            list(one.needs) + [(a + one.steps, b + one.steps, rounds) for a, b, rounds in other.needs],
            list(one.befores) + [(a + one.steps, b + one.steps, rounds) for a, b, rounds in other.befores],
        )
        self.assertEqual((parts(one), parts(other)), before)
        both = [least_cells(one), least_cells(other)]
        self.assertEqual(least_cells(made), None if None in both else sum(both))
        return made

    def test_ordinary(self):
        self.assertEqual(parts(side_by_side(R, P)), (
            5, ((0, 1, 0), (2, 3, 0), (3, 4, 0), (4, 2, 1)), ((1, 0, 2),)))
        self.assertEqual(parts(side_by_side(Q, R)), (4, ((0, 1, 0), (2, 3, 0)), ((3, 2, 2),)))
        self.assertEqual(parts(side_by_side(BARE, BARE)), (4, (), ((0, 1, 1), (2, 3, 1))))

    def test_all_pairs(self):
        for one in NAMED:
            for other in NAMED:
                self.check(one, other)

    def test_beyond_the_bounds(self):
        source = random.Random(101)
        made = GREAT
        for _ in range(5):
            made = self.check(made, bound_program(source, 12, 20, 6))
            made = self.check(R, made)
        self.assertEqual(made.steps, 12 + 5 * 14)
        self.assertGreater(len(made.befores), 40)

    def test_with_itself(self):
        self.assertEqual(least_cells(self.check(T, T)), 6)


class Joined(Joining):
    """Point 10.1: joined."""

    def check(self, program, links):
        befores = list(program.befores)
        for link in links:
            if link not in befores:
                befores.append(link)
        before = (parts(program), list(links))
        try:
            made = joined(program, links)
        except Stuck as error:
            self.assertTrue(reference.is_zero_ring(program.needs, tuple(befores), error.ring))
            made = None
        else:
            self.check_parts(made, program.steps, program.needs, befores)
        self.assertEqual((parts(program), list(links)), before)
        return made

    def test_ordinary(self):
        self.assertEqual(self.check(Q, ((1, 0, 2),)), R)
        self.assertEqual(self.check(Q, [(1, 0, 2)]), R)
        self.assertEqual(self.check(Q, ()), Q)
        self.assertEqual(self.check(T, []), T)
        self.assertEqual(least_cells(self.check(Q, [(1, 0, 6)])), 6)

    def test_left_out(self):
        made = self.check(R, [(1, 0, 2), (1, 1, 6), (1, 0, 1), (1, 1, 6), (1, 0, 2), (0, 1, 0)])
        self.assertEqual(made.befores, ((1, 0, 2), (1, 1, 6), (1, 0, 1), (0, 1, 0)))

    def test_stuck(self):
        for links in ([(1, 0, 0)], ((1, 1, 0),), [(1, 0, 1), (0, 0, 3), (1, 0, 0), (0, 1, 0)]):
            with self.assertRaises(Stuck):
                joined(Q, links)
            self.assertIsNone(self.check(Q, links))
        with self.assertRaises(Stuck) as caught:
            joined(R, ((1, 0, 2), (1, 1, 1), (1, 0, 2), (1, 0, 0)))
        self.assertEqual(sorted(caught.exception.ring), [("before", 2), ("need", 0)])

    def test_drawn(self):
        source = random.Random(102)
        found = {True: 0, False: 0}
        for program in drawn_programs(103, 150, 5, 6, 2):
            links = [
                (source.randrange(program.steps), source.randrange(program.steps), source.choice((0, 1, 1, 6)))
                for _ in range(source.randint(0, 4))
            ]
            found[self.check(program, links) is None] += 1
        self.assertGreater(min(found.values()), 20)

    def test_beyond_the_bounds(self):
        links = tuple((one, other, 6) for one in range(12) for other in range(12))
        made = self.check(GREAT, links)
        self.assertGreater(len(made.befores), 140)
        made = self.check(side_by_side(made, made), [(23, 0, 6), (0, 23, 6)])
        self.assertEqual((made.steps, made.befores[-2:]), (24, ((23, 0, 6), (0, 23, 6))))
        waits = unrolled(made, 3)
        self.assertEqual(self.check(waits, [(71, 0, 1)]).befores[-1], (71, 0, 1))

    def test_no_links(self):
        wrong = [
            None, (0, 1, 1), [[0, 1, 1]], [(0, 1)], [(0, 1, 1, 1)], [(2, 0, 1)], [(0, 2, 1)], [(-1, 0, 1)], [(0, 1, 7)],
            [(0, 1, -1)], [(True, 0, 1)], [(0, False, 1)], [(0, 1, True)], [(0, 1, 1), None], {(0, 1, 1): 1},
            "011", [(0, 1, 1), (0, 1, 10 ** 39)], (((0, 1, 1),),), [(0, 1, "1")], {0: (0, 1, 1)}.values(),
        ]
        for thing in wrong + odd_things():
            if type(thing) in (tuple, list) and len(thing) == 0:
                continue
            with self.assertRaises(NoLinks):
                joined(Q, thing)
        # What is no links is told ahead of a ring.
        with self.assertRaises(NoLinks):
            joined(Q, [(1, 0, 0), None])
        self.assertEqual(joined(Q, []), Q)
        for thing in spoiled([(1, 0, 2), (0, 0, 1)]):
            right = type(thing) in (tuple, list) and all(
                type(link) is tuple and [type(part) for part in link] == [int] * 3
                and link[0] in (0, 1) and link[1] in (0, 1) and 0 <= link[2] <= 6 for link in thing
            )
            if right:
                self.check(Q, thing)
            else:
                with self.assertRaises(NoLinks):
                    joined(Q, thing)


class Unrolled(Joining):
    """Point 10.1: unrolled."""

    def check(self, program, many):
        rows = []
        for links in (program.needs, program.befores):
            rows.append([
                (one * many + k, other * many + (k + rounds) % many, (k + rounds) // many)
                for one, other, rounds in links for k in range(many)
            ])
        for step in range(program.steps):
            for k in range(many - 1):
                if (step * many + k, step * many + k + 1, 0) not in rows[1]:
                    rows[1].append((step * many + k, step * many + k + 1, 0))
            if (step * many + many - 1, step * many, 1) not in rows[1]:
                rows[1].append((step * many + many - 1, step * many, 1))
        before = parts(program)
        made = unrolled(program, many)
        self.check_parts(made, program.steps * many, rows[0], rows[1])
        self.assertEqual(parts(program), before)
        self.assertEqual(least_cells(made), least_cells(program))
        return made

    def test_ordinary(self):
        self.assertEqual(parts(unrolled(R, 3)), (
            6, ((0, 3, 0), (1, 4, 0), (2, 5, 0)),
            ((3, 2, 0), (4, 0, 1), (5, 1, 1), (0, 1, 0), (1, 2, 0), (2, 0, 1), (3, 4, 0), (4, 5, 0), (5, 3, 1)),
        ))
        self.assertEqual(parts(unrolled(P, 2)), (
            6, ((0, 2, 0), (1, 3, 0), (2, 4, 0), (3, 5, 0), (4, 1, 0), (5, 0, 1)),
            ((0, 1, 0), (1, 0, 1), (2, 3, 0), (3, 2, 1), (4, 5, 0), (5, 4, 1)),
        ))
        self.assertEqual(parts(unrolled(LONE, 2)), (
            2, ((0, 1, 0), (1, 0, 1), (0, 1, 1), (1, 0, 2)), ((0, 1, 0), (1, 0, 1))))

    def test_one_round_in_one(self):
        self.assertEqual(parts(unrolled(P, 1)), (3, P.needs, ((0, 0, 1), (1, 1, 1), (2, 2, 1))))
        for program in NAMED:
            self.check(program, 1)

    def test_befores_of_a_step_to_itself(self):
        program = Program(2, (), ((1, 1, 1), (0, 0, 2), (1, 0, 3)))
        self.assertEqual(unrolled(program, 1).befores, ((1, 1, 1), (0, 0, 2), (1, 0, 3), (0, 0, 1)))
        self.assertEqual(unrolled(program, 2).befores, (
            (2, 3, 0), (3, 2, 1), (0, 0, 1), (1, 1, 1), (2, 1, 1), (3, 0, 2), (0, 1, 0), (1, 0, 1)))
        for many in range(1, 7):
            self.check(program, many)

    def test_all_numbers(self):
        for program in list(NAMED) + [GREAT] + drawn_programs(104, 30, 4, 5, 6):
            for many in (2, 3, 6):
                self.check(program, many)

    def test_beyond_the_bounds(self):
        source = random.Random(105)
        program = bound_program(source, 12, 30, 6)
        made = self.check(self.check(program, 6), 2)
        self.assertEqual(made.steps, 144)
        self.assertEqual(self.check(side_by_side(made, R), 1).steps, 146)

    def test_no_number(self):
        for thing in odd_things() + [0, 7, -1, 10 ** 39, True, "2", (2,), [2]]:
            for program in (P, BARE):
                with self.assertRaises(NoNumber):
                    unrolled(program, thing)


class Moved(Joining):
    """Point 10.1: moved."""

    def check(self, program, numbers):
        before = parts(program)
        made = moved(program, numbers)
        self.check_parts(
            made, program.steps,
            [(numbers[one], numbers[other], rounds) for one, other, rounds in program.needs],
            [(numbers[one], numbers[other], rounds) for one, other, rounds in program.befores],
        )
        self.assertEqual(parts(program), before)
        self.assertEqual(least_cells(made), least_cells(program))
        return made

    def test_ordinary(self):
        self.assertEqual(parts(moved(P, (2, 0, 1))), (3, ((2, 0, 0), (0, 1, 0), (1, 2, 1)), ()))
        self.assertEqual(parts(moved(R, (1, 0))), (2, ((1, 0, 0),), ((0, 1, 2),)))
        self.assertEqual(self.check(P, (0, 1, 2)), P)
        self.assertEqual(makers(moved(LOOSE, (4, 3, 2, 1, 0))), (1, 2, 3, 4))

    def test_drawn(self):
        source = random.Random(106)
        for program in list(NAMED) + [GREAT, side_by_side(GREAT, T)] + drawn_programs(107, 40, 5, 6, 3):
            numbers = list(range(program.steps))
            source.shuffle(numbers)
            back = [numbers.index(step) for step in range(program.steps)]
            self.assertEqual(self.check(self.check(program, tuple(numbers)), tuple(back)), program)

    def test_no_numbers(self):
        wrong = [
            (0, 1), (0, 1, 2, 3), [0, 1, 2], (0, 1, 1), (0, 1, 3), (0, 1, -1), (1, 2, 3), (0, True, 2), (False, 1, 2),
            (0, 1, "2"), (0, 1, None), (0, 1, 10 ** 39), ((0,), (1,), (2,)), {0: 0, 1: 1, 2: 2},
        ]
        for thing in wrong + odd_things():
            with self.assertRaises(NoNumbers):
                moved(P, thing)
        for thing in spoiled((2, 0, 1)):
            right = type(thing) is tuple and [type(part) for part in thing] == [int] * 3 and sorted(thing) == [0, 1, 2]
            if right:
                self.check(P, thing)
            else:
                with self.assertRaises(NoNumbers):
                    moved(P, thing)


if __name__ == "__main__":
    unittest.main()
