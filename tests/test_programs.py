import random
import unittest

from aheadcells.errors import BadProgram, CellError, NoStep, Stuck
from aheadcells.programs import Program, makers, readers
from tests.samples import BARE, FAR, LONE, NAMED, P, Q, R, T, drawn_programs, odd_things

UNLIKE = tuple((one, other, 1) for one in range(7) for other in range(7))


def part_of(steps, needs, befores):
    """The part that is told to be bad, or "stuck", or None."""
    try:
        Program(steps, needs, befores)
    except BadProgram as error:
        return error.part
    except Stuck:
        return "stuck"
    return None


class Made(unittest.TestCase):
    """Point 1.1: what is a program."""

    def test_attributes(self):
        program = Program(3, ((0, 1, 0), (2, 2, 6)), ((1, 0, 1),))
        self.assertEqual((program.steps, program.needs, program.befores), (3, ((0, 1, 0), (2, 2, 6)), ((1, 0, 1),)))

    def test_bounds_of_steps(self):
        for steps in (1, 2, 11, 12):
            self.assertIsNone(part_of(steps, (), ()))
        for steps in (0, 13, -1, 10 ** 39, True, False, None, "3", (3,), [3], b"3"):
            self.assertEqual(part_of(steps, (), ()), "steps")

    def test_bounds_of_links(self):
        for rounds in (1, 6):
            self.assertIsNone(part_of(12, ((11, 0, rounds),), ((0, 11, rounds), (11, 11, rounds))))
        wrong = [
            (0, 1), (0, 1, 0, 0), [0, 1, 1], (2, 0, 1), (0, 2, 1), (-1, 0, 1), (0, -1, 1), (0, 1, -1), (0, 1, 7),
            (True, 1, 1), (0, True, 1), (0, 1, True), (False, 1, 1), (None, 1, 1), (0, "1", 1), (0, 1, (1,)), None,
            "011", 10 ** 39, (10 ** 39, 0, 1), (0, 1, 10 ** 39), (), ((0, 1, 1),), R, (R, 0, 1),
        ]
        for link in wrong:
            self.assertEqual(part_of(2, (link,), ()), "needs", link)
            self.assertEqual(part_of(2, (), (link,)), "befores", link)
            self.assertEqual(part_of(2, ((0, 1, 1), (0, 0, 1), link), ()), "needs", link)
            self.assertEqual(part_of(2, ((0, 1, 1),), ((0, 1, 1), link)), "befores", link)

    def test_how_many_links(self):
        self.assertIsNone(part_of(7, UNLIKE[:40], UNLIKE[:40]))
        self.assertEqual(part_of(7, UNLIKE[:41], ()), "needs")
        self.assertEqual(part_of(7, UNLIKE[:40], UNLIKE[:41]), "befores")

    def test_unlike_links(self):
        self.assertEqual(part_of(2, ((0, 1, 1), (1, 0, 1), (0, 1, 1)), ()), "needs")
        self.assertEqual(part_of(2, (), ((0, 1, 1), (0, 1, 1))), "befores")
        self.assertIsNone(part_of(2, ((0, 1, 1), (0, 1, 2)), ((0, 1, 1), (0, 1, 2))))

    def test_tuples_alone(self):
        self.assertEqual(part_of(2, [(0, 1, 1)], ()), "needs")
        self.assertEqual(part_of(2, (), [(0, 1, 1)]), "befores")
        self.assertEqual(part_of(2, [], []), "needs")
        self.assertEqual(part_of(2, (), []), "befores")

    def test_first_part_that_is_wrong(self):
        self.assertEqual(part_of(0, None, None), "steps")
        self.assertEqual(part_of(1, None, None), "needs")
        self.assertEqual(part_of(1, (), None), "befores")
        self.assertEqual(part_of(2, ((0, 1, 0), (1, 0, 0)), [1]), "befores")
        self.assertEqual(part_of(2, ((0, 1, 0), (1, 0, 0)), ((0, 1, 0),)), "stuck")

    def test_odd_things(self):
        for thing in odd_things():
            self.assertEqual(part_of(thing, (), ()), "steps")
            expected = None if isinstance(thing, tuple) and thing == () else "needs"
            self.assertEqual(part_of(2, thing, ()), expected)
            self.assertEqual(part_of(2, (thing,), ()), "needs")
            self.assertEqual(part_of(2, (), ((0, 1, 1), thing)), "befores")
            self.assertEqual(part_of(2, (), ((0, 1, thing),)), "befores")
            self.assertEqual(part_of(2, ((thing, 1, 1),), ()), "needs")


class Rings(unittest.TestCase):
    """Point 1.1: programs that are stuck."""

    def check_ring(self, needs, befores, ring):
        rows = {"need": needs, "before": befores}
        self.assertIs(type(ring), tuple)
        self.assertGreater(len(ring), 0)
        for told, behind in zip(ring, ring[1:] + ring[:1]):
            self.assertIs(type(told), tuple)
            self.assertIn(told[1], range(len(rows[told[0]])))
            link = rows[told[0]][told[1]]
            self.assertEqual(link[2], 0)
            self.assertEqual(link[1], rows[behind[0]][behind[1]][0])

    def stuck_ring(self, steps, needs, befores):
        with self.assertRaises(Stuck) as caught:
            Program(steps, needs, befores)
        self.check_ring(needs, befores, caught.exception.ring)
        return caught.exception.ring

    def test_rings(self):
        self.assertEqual(self.stuck_ring(1, ((0, 0, 0),), ()), (("need", 0),))
        self.assertEqual(self.stuck_ring(2, ((0, 1, 0),), ((1, 1, 1), (1, 1, 0))), (("before", 1),))
        ring = self.stuck_ring(3, ((0, 1, 0), (1, 2, 0)), ((2, 0, 1), (2, 0, 0)))
        self.assertEqual(sorted(ring), [("before", 1), ("need", 0), ("need", 1)])
        ring = tuple((step, (step + 1) % 12, 0) for step in range(12))
        self.assertEqual(len(self.stuck_ring(12, (), ring)), 12)

    def test_ways_into_and_out_of_a_ring(self):
        ring = self.stuck_ring(5, ((0, 1, 0), (1, 2, 0), (2, 1, 0), (2, 3, 0)), ((3, 4, 0), (0, 4, 0)))
        self.assertEqual(sorted(ring), [("need", 1), ("need", 2)])

    def test_drawn(self):
        source = random.Random(11)
        stuck = 0
        for _ in range(300):
            many = source.randint(1, 6)
            links = {
                (source.randrange(many), source.randrange(many), source.choice((0, 0, 1))): True
                for _ in range(source.randint(0, 9))
            }
            links = tuple(links)
            half = len(links) // 2
            zeros = {(one, other) for one, other, rounds in links if rounds == 0}
            for _ in range(many):
                zeros |= {(one, other) for one, by in zeros for at, other in zeros if by == at}
            if any((step, step) in zeros for step in range(many)):
                self.stuck_ring(many, links[:half], links[half:])
                stuck += 1
            else:
                Program(many, links[:half], links[half:])
        self.assertIn(stuck, range(50, 250))


class Equal(unittest.TestCase):
    """Points 1.1 and 0.4: when programs are equal."""

    def test_equal(self):
        for program in NAMED:
            same = Program(program.steps, tuple(list(program.needs)), tuple(list(program.befores)))
            self.assertTrue(program == same)
            self.assertFalse(program != same)

    def test_unlike(self):
        base = Program(3, ((0, 1, 0), (1, 2, 0)), ((0, 2, 1),))
        others = [
            Program(4, ((0, 1, 0), (1, 2, 0)), ((0, 2, 1),)), Program(3, ((1, 2, 0), (0, 1, 0)), ((0, 2, 1),)),
            Program(3, ((0, 1, 0), (1, 2, 0)), ((0, 2, 2),)), Program(3, ((0, 1, 0), (1, 2, 0)), ()),
            Program(3, ((0, 1, 0),), ((0, 2, 1),)), Program(3, ((0, 2, 1),), ((0, 1, 0), (1, 2, 0))),
        ]
        for other in others:
            self.assertFalse(base == other)
            self.assertTrue(base != other)

    def test_other_things(self):
        for thing in odd_things():
            if not isinstance(thing, Program):
                self.assertFalse(Q == thing)
                self.assertTrue(Q != thing)
        self.assertFalse(Q == (2, ((0, 1, 0),), ()))
        self.assertFalse(Q == [2, ((0, 1, 0),), ()])


class Readers(unittest.TestCase):
    """Point 1.2."""

    def test_readers(self):
        self.assertEqual(readers(FAR, 0), ((1, 0), (1, 2)))
        self.assertEqual(readers(FAR, 2), ((2, 1),))
        self.assertEqual(readers(T, 1), ())
        self.assertEqual(readers(Program(3, ((0, 2, 0), (0, 1, 5), (1, 0, 1), (0, 1, 1)), ()), 0),
                         ((1, 1), (1, 5), (2, 0)))
        self.assertEqual(readers(BARE, 0), ())
        self.assertIs(type(readers(P, 0)), tuple)

    def test_makers(self):
        self.assertEqual([makers(program) for program in NAMED],
                         [(0, 1, 2), (0,), (0,), (0, 3, 4), (), (0,), (0, 1, 2), (0, 1, 2, 3)])
        self.assertEqual(makers(Program(4, ((3, 0, 1), (1, 0, 0), (3, 1, 1)), ())), (1, 3))

    def test_no_step(self):
        for thing in odd_things() + [3, 4, 10 ** 39]:
            with self.assertRaises(NoStep):
                readers(P, thing)

    def test_drawn(self):
        for program in drawn_programs(12, 40):
            every = [step for step in range(program.steps) if readers(program, step)]
            self.assertEqual(makers(program), tuple(every))
            needs = [(step, other, rounds) for step in every for other, rounds in readers(program, step)]
            self.assertEqual(needs, sorted(program.needs))
        self.assertEqual(readers(LONE, 0), ((0, 1), (0, 3)))

    def test_errors_are_cell_errors(self):
        with self.assertRaises(CellError):
            readers(P, True)


if __name__ == "__main__":
    unittest.main()
