import random
import unittest

from aheadcells.errors import Full, NoNumber, NoStep, NothingDone, NotYet
from aheadcells.followings import least_cells
from aheadcells.joining import joined, side_by_side, unrolled
from aheadcells.orders import drawn_order
from aheadcells.paces import waiting
from aheadcells.programs import Program, makers
from aheadcells.running import most_wanted, order_with
from aheadcells.yards import Yard
from tests import reference
from tests.samples import BARE, FAR, GREAT, LONE, LOOSE, NAMED, P, Q, R, T, drawn_programs, odd_things


class PlainYard:
    """What a yard holds, kept as plain lists: the order, and what lies in the cells behind each part of it."""

    def __init__(self, program, many):
        self.program = program
        self.order = ()
        self.cells = [[None] * many]

    def expected(self, step):
        """The error of doing a step with its value, or None with the cells that may be taken, None for no maker."""
        program = self.program
        if type(step) is not int or not 0 <= step < program.steps:
            return (NoStep, None)
        if step not in reference.next_steps(program, self.order):
            return (NotYet, None)
        if step not in makers(program):
            return (None, None)
        behind = reference.wanted_values(program, self.order + (step,))
        free = [spot for spot, value in enumerate(self.cells[-1]) if value not in behind]
        if not free:
            return (Full, (step, self.order.count(step) + 1))
        return (None, free)

    def done(self, step, spot):
        cells = list(self.cells[-1])
        self.order += (step,)
        if spot is not None:
            cells[spot] = (step, self.order.count(step))
        self.cells.append(cells)

    def back(self):
        self.order = self.order[:-1]
        self.cells.pop()


class YardTests(unittest.TestCase):
    """What the tests of point 15 have in common."""

    def check_held(self, yard, plain):
        self.assertEqual(yard.so_far(), plain.order)
        self.assertIs(type(yard.so_far()), tuple)
        self.assertEqual(yard.contents(), plain.cells[-1])
        self.assertIs(type(yard.contents()), list)
        self.assertEqual(yard.depth(), len(plain.order))
        self.assertEqual(yard.can_do(), reference.next_steps(plain.program, plain.order))
        self.assertIs(type(yard.can_do()), tuple)

    def check_do(self, yard, plain, step):
        """Whether a step was done; what comes of it is held against plain lists."""
        error, right = plain.expected(step)
        if error is not None:
            with self.assertRaises(error) as caught:
                yard.do(step)
            self.assertIs(type(caught.exception), error)
            self.assertEqual(vars(caught.exception), {} if error is not Full else {"value": right})
            self.check_held(yard, plain)
            return False
        spot = yard.do(step)
        if right is None:
            self.assertIsNone(spot)
        else:
            self.assertIs(type(spot), int)
            self.assertIn(spot, right)
        plain.done(step, spot)
        self.check_held(yard, plain)
        return True

    def both(self, program, many, order=()):
        yard, plain = Yard(program, many), PlainYard(program, many)
        for step in order:
            self.assertTrue(self.check_do(yard, plain, step))
        return yard, plain

    def check_full(self, yard, step, value):
        before = (yard.contents(), yard.so_far(), yard.can_do(), yard.depth())
        with self.assertRaises(Full) as caught:
            yard.do(step)
        self.assertEqual(caught.exception.value, value)
        self.assertEqual((yard.contents(), yard.so_far(), yard.can_do(), yard.depth()), before)


class Doing(YardTests):
    """Point 15.1: do, contents, so_far and can_do."""

    def test_ordinary(self):
        yard = Yard(R, 2)
        self.assertEqual((yard.contents(), yard.so_far(), yard.can_do(), yard.depth()), ([None, None], (), (0,), 0))
        spots = [yard.do(0), yard.do(0)]
        self.assertEqual(sorted(spots), [0, 1])
        self.assertEqual(yard.contents(), [(0, 1), (0, 2)] if spots == [0, 1] else [(0, 2), (0, 1)])
        self.assertEqual((yard.so_far(), yard.can_do()), ((0, 0), (1,)))
        self.assertIsNone(yard.do(1))
        self.assertEqual((yard.so_far(), yard.can_do()), ((0, 0, 1), (0, 1)))
        # The cell of the value that was read is free for the next one.
        self.assertEqual(yard.do(0), spots[0])

    def test_no_step(self):
        yard, plain = self.both(R, 2, (0,))
        for thing in odd_things() + [2, -1, True, False, None, "0", (0,), 10 ** 39, -(10 ** 39)]:
            with self.assertRaises(NoStep):
                yard.do(thing)
        self.check_held(yard, plain)

    def test_not_yet(self):
        yard, plain = self.both(R, 5)
        self.assertFalse(self.check_do(yard, plain, 1))
        for step in (0, 0):
            self.assertTrue(self.check_do(yard, plain, step))
        self.assertFalse(self.check_do(yard, plain, 0))
        # A full yard tells that, too, of a step that cannot be done.
        yard, plain = self.both(Q, 0)
        self.assertFalse(self.check_do(yard, plain, 1))
        with self.assertRaises(NotYet):
            yard.do(1)

    def test_full(self):
        yard = Yard(R, 1)
        yard.do(0)
        self.check_full(yard, 0, (0, 2))
        yard.do(1)
        self.assertEqual(yard.do(0), 0)
        self.check_full(yard, 0, (0, 3))

    def test_no_cells(self):
        for program in (P, Q, R, T):
            self.check_full(Yard(program, 0), 0, (0, 1))
        yard = Yard(BARE, 0)
        self.assertIsNone(yard.do(0))
        self.assertIsNone(yard.do(1))
        self.assertEqual((yard.contents(), yard.so_far()), ([], (0, 1)))

    def test_last_reading_and_making_at_once(self):
        """A step that does the last reading of a value and makes another one may put it in the same cell."""
        yard, plain = self.both(P, 1, (0, 1, 2) * 4)
        self.assertEqual(yard.contents(), [(2, 4)])
        yard, plain = self.both(Program(1, ((0, 0, 1),), ()), 1, (0,) * 5)
        self.assertEqual(yard.contents(), [(0, 5)])
        yard, plain = self.both(LONE, 3, (0,) * 9)
        yard, plain = self.both(LONE, 2, (0,) * 2)
        self.check_full(yard, 0, (0, 3))
        # A first reading out of two frees no cell.
        yard, plain = self.both(Program(3, ((0, 1, 0), (0, 2, 0), (1, 2, 0)), ()), 1, (0,))
        self.check_full(yard, 1, (1, 1))

    def test_values_that_are_read_only_ahead_of_round_1(self):
        yard, plain = self.both(Program(2, ((0, 1, 2),), ()), 1, (1, 1, 0, 1))
        self.assertTrue(self.check_do(yard, plain, 0))
        self.check_full(yard, 0, (0, 3))

    def test_no_number(self):
        for thing in odd_things() + [-1, 201, 10 ** 39, True, False, None, "1", (1,)]:
            with self.assertRaises(NoNumber):
                Yard(P, thing)
        for many in (0, 1, 200):
            self.assertEqual(Yard(P, many).contents(), [None] * many)

    def test_drawn(self):
        source = random.Random(261)
        seen = {}
        for program in list(NAMED) + drawn_programs(262, 100, 5, 6, 3):
            yard, plain = self.both(program, source.randint(0, 4))
            for _ in range(30):
                if plain.order and source.random() < 0.2:
                    self.assertIsNone(yard.back())
                    plain.back()
                    self.check_held(yard, plain)
                    continue
                step = source.randrange(-1, program.steps + 1)
                kind = plain.expected(step)[0]
                seen[kind] = seen.get(kind, 0) + 1
                self.check_do(yard, plain, step)
        self.assertGreater(min(seen[kind] for kind in (None, NoStep, NotYet, Full)), 100)

    def test_new_lists(self):
        yard = Yard(R, 2)
        yard.do(0)
        yard.contents().clear()
        self.assertEqual(len(yard.contents()), 2)
        held = yard.contents()
        yard.do(0)
        self.assertEqual(held.count(None), 1)


class MostWanted(YardTests):
    """Point 15.2: the tenth fact."""

    def test_as_many_as_most_wanted(self):
        source = random.Random(263)
        for program in drawn_programs(264, 150, 5, 6, 2) + [P, R, T, FAR, LONE]:
            found = most_wanted(program)
            if found[0] == "most":
                yard = Yard(program, found[1])
                for step in drawn_order(program, [source.randrange(60) for _ in range(60)]):
                    yard.do(step)
                self.assertEqual(yard.depth(), 60)
                yard = Yard(program, found[1])
                for step in found[2]:
                    yard.do(step)
                self.assertNotIn(None, yard.contents())

    def test_fewer(self):
        full = 0
        for program in drawn_programs(265, 200, 5, 6, 2) + [P, R, T, FAR, LONE, Q, LOOSE]:
            found = most_wanted(program)
            number, order = (found[1], found[2]) if found[0] == "most" else (9, order_with(program, 9))
            for many in range(max(0, number - 3), number):
                yard = Yard(program, many)
                with self.assertRaises(Full):
                    for step in order:
                        yard.do(step)
                full += 1
        self.assertGreater(full, 100)

    def test_fewer_than_dealt_ahead(self):
        self.assertEqual((least_cells(T), most_wanted(T)[1]), (3, 2))
        yard = Yard(T, 2)
        for step in drawn_order(T, [3 * number for number in range(300)]):
            yard.do(step)
        with self.assertRaises(Full):
            yard = Yard(T, 1)
            for step in (0, 1, 2, 3, 4):
                yard.do(step)


class Back(YardTests):
    """Point 15.1: back, depth, trying and copy."""

    def test_back(self):
        yard = Yard(R, 1)
        with self.assertRaises(NothingDone):
            yard.back()
        yard, plain = self.both(R, 2, (0, 0, 1, 0, 1, 1))
        while plain.order:
            self.assertIsNone(yard.back())
            plain.back()
            self.check_held(yard, plain)
        for _ in range(2):
            with self.assertRaises(NothingDone):
                yard.back()
        self.check_held(yard, plain)
        self.assertTrue(self.check_do(yard, plain, 0))

    def test_back_from_full(self):
        yard, plain = self.both(R, 1, (0, 1, 0))
        self.assertFalse(self.check_do(yard, plain, 0))
        yard.back()
        plain.back()
        self.check_held(yard, plain)
        self.assertTrue(self.check_do(yard, plain, 0))

    def test_trying_returns(self):
        yard, plain = self.both(R, 2, (0,))
        for mark in (object(), None, 7, [1]):
            self.assertIs(yard.trying(lambda held: mark), mark)
        self.assertIs(yard.trying(lambda held: held), yard)
        self.check_held(yard, plain)

    def test_trying_does_and_takes_back(self):
        yard, plain = self.both(R, 2, (0, 0, 1))

        def action(held):
            self.assertIs(held, yard)
            held.do(0)
            for _ in range(4):
                held.back()
            with self.assertRaises(NothingDone):
                held.back()
            self.assertEqual(held.contents(), [None, None])
            held.do(0)
            held.do(1)
            return held.so_far()

        self.assertEqual(yard.trying(action), (0, 1))
        self.check_held(yard, plain)
        for step in (1, 0, 0):
            self.assertTrue(self.check_do(yard, plain, step))
        while plain.order:
            yard.back()
            plain.back()
            self.check_held(yard, plain)

    def test_trying_raises(self):
        yard, plain = self.both(R, 2, (0, 0, 1))
        for error in (ValueError("x"), NoStep(), StopIteration(), KeyboardInterrupt(), ZeroDivisionError()):

            def action(held):
                held.back()
                held.back()
                held.do(1)
                held.do(0)
                raise error

            with self.assertRaises(type(error)) as caught:
                yard.trying(action)
            self.assertIs(caught.exception, error)
            self.check_held(yard, plain)
        with self.assertRaises(Full):
            Yard(Q, 1).trying(lambda held: (held.do(0), held.do(0)))
        with self.assertRaises(NotYet):
            yard.trying(lambda held: (held.do(0), held.do(0)))
        self.check_held(yard, plain)

    def test_trying_within(self):
        yard, plain = self.both(T, 3, (0, 1, 2))

        def inner(held):
            held.do(4)
            held.back()
            held.back()
            held.back()
            return held.so_far()

        def failing(held):
            held.back()
            raise KeyError("within")

        def outer(held):
            held.do(3)
            found = held.trying(inner)
            self.assertEqual(held.so_far(), (0, 1, 2, 3))
            with self.assertRaises(KeyError):
                held.trying(failing)
            self.assertEqual(held.so_far(), (0, 1, 2, 3))
            held.do(4)
            return found, held.so_far()

        self.assertEqual(yard.trying(outer), ((0, 1), (0, 1, 2, 3, 4)))
        self.check_held(yard, plain)

    def test_copy(self):
        yard, plain = self.both(R, 2, (0, 0, 1))
        other = yard.copy()
        self.assertIs(type(other), Yard)
        self.assertIsNot(other, yard)
        copied = PlainYard(R, 2)
        copied.order, copied.cells = plain.order, list(plain.cells)
        self.check_held(other, copied)
        self.assertTrue(self.check_do(yard, plain, 0))
        self.check_held(other, copied)
        self.assertTrue(self.check_do(other, copied, 1))
        self.check_held(yard, plain)
        for held, lists in ((other, copied), (yard, plain)):
            while lists.order:
                held.back()
                lists.back()
                self.check_held(held, lists)
            with self.assertRaises(NothingDone):
                held.back()

    def test_copy_within_trying(self):
        yard, plain = self.both(R, 2, (0,))
        other = yard.trying(lambda held: (held.do(0), held.copy(), held.do(1))[1])
        self.check_held(yard, plain)
        self.assertEqual(other.so_far(), (0, 0))
        other.back()
        other.back()
        self.assertEqual((yard.depth(), other.depth()), (1, 0))

    def test_equal_to_nothing_else(self):
        yard = Yard(R, 1)
        for thing in odd_things() + [Yard(R, 1)]:
            self.assertFalse(yard == thing)

    def test_equal_calls(self):
        one, other = Yard(T, 3), Yard(Program(T.steps, T.needs, T.befores), 3)
        for step in drawn_order(T, list(range(50))):
            self.assertEqual(one.do(step), other.do(step))
        self.assertEqual(one.contents(), other.contents())


class BeyondTheBounds(YardTests):
    """Points 1.1 and 15.1: programs that were returned."""

    def test_programs_that_were_returned(self):
        source = random.Random(266)
        many = tuple((one, other, 6) for one in range(7) for other in range(7))
        for program in (
            unrolled(T, 3), side_by_side(T, side_by_side(FAR, P)), waiting(Q, ((0, 12),)), joined(GREAT, many),
            side_by_side(LOOSE, unrolled(R, 6)),
        ):
            for cells in (0, 3, 200):
                yard, plain = self.both(program, cells)
                for _ in range(25):
                    self.check_do(yard, plain, source.choice(yard.can_do()))
                self.check_do(yard, plain, program.steps)
                copied = yard.copy()
                while copied.depth():
                    copied.back()
                self.assertEqual(copied.contents(), [None] * cells)

    def test_long_runs(self):
        yard = Yard(T, 2)
        for _ in range(400):
            for step in (0, 2, 4, 1, 3, 5):
                yard.do(step)
        self.assertEqual((yard.depth(), yard.contents().count(None)), (2400, 0))
        self.assertEqual(yard.trying(lambda held: [held.back() for _ in range(2400)]), [None] * 2400)
        self.assertEqual(yard.depth(), 2400)


if __name__ == "__main__":
    unittest.main()
