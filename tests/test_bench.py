import random
import unittest

from aheadcells.bench import Bench
from aheadcells.errors import BadProgram, CellError, NoLink, NoNumber, NoStep, NothingDone, Stuck
from aheadcells.followings import crowd, following, is_crowd, is_following, is_lot, least_cells, lot
from aheadcells.joining import joined, side_by_side, unrolled
from aheadcells.paces import waiting
from aheadcells.programs import Program
from tests import reference
from tests.samples import BARE, FAR, GREAT, LOOSE, NAMED, P, Q, R, T, drawn_programs, odd_things

FULL = Program(12, tuple((one, other, 1) for one in range(7) for other in range(7))[:40], (
    tuple((one, other, 2) for one in range(7) for other in range(7))[:40]))


def parts(program):
    return (program.steps, program.needs, program.befores)


class BenchTests(unittest.TestCase):
    """What the tests of point 11.1 have in common."""

    def check_held(self, bench, program, depth):
        self.assertEqual(parts(bench.program()), parts(program))
        self.assertTrue(bench.program() == program)
        self.assertEqual(bench.depth(), depth)

    def check_refused(self, bench, error, method, *arguments):
        """The error that a method raises, which changed nothing."""
        before, depth = parts(bench.program()), bench.depth()
        with self.assertRaises(error) as caught:
            getattr(bench, method)(*arguments)
        self.assertIs(type(caught.exception), error)
        self.assertEqual((parts(bench.program()), bench.depth()), (before, depth))
        return caught.exception


class Changes(BenchTests):
    """Point 11.1: the methods that change."""

    def test_ordinary(self):
        bench = Bench(Q)
        self.check_held(bench, Q, 0)
        self.assertIsNone(bench.before(1, 0, 2))
        self.check_held(bench, R, 1)
        self.assertIsNone(bench.need(1, 0, 1))
        self.check_held(bench, Program(2, ((0, 1, 0), (1, 0, 1)), ((1, 0, 2),)), 2)
        self.assertIsNone(bench.change("need", 0, 5))
        self.check_held(bench, Program(2, ((0, 1, 5), (1, 0, 1)), ((1, 0, 2),)), 3)
        self.assertIsNone(bench.strike("before", 0))
        self.check_held(bench, Program(2, ((0, 1, 5), (1, 0, 1)), ()), 4)
        self.assertIsNone(bench.step())
        self.check_held(bench, Program(3, ((0, 1, 5), (1, 0, 1)), ()), 5)
        self.assertIsNone(bench.need(2, 2, 6))
        self.assertIsNone(bench.strike("need", 1))
        self.check_held(bench, Program(3, ((0, 1, 5), (2, 2, 6)), ()), 7)

    def test_places(self):
        program = Program(3, ((0, 1, 1), (1, 2, 2), (2, 0, 3)), ((2, 1, 4), (1, 0, 5), (0, 2, 6)))
        for index in range(3):
            bench = Bench(program)
            bench.strike("need", index)
            self.check_held(bench, Program(3, program.needs[:index] + program.needs[index + 1:], program.befores), 1)
            bench = Bench(program)
            bench.change("before", index, 0)
            befores = list(program.befores)
            befores[index] = befores[index][:2] + (0,)
            self.check_held(bench, Program(3, program.needs, tuple(befores)), 1)

    def test_the_same_rounds(self):
        bench = Bench(R)
        bench.change("before", 0, 2)
        self.check_held(bench, R, 1)

    def test_program_stays(self):
        program = Program(2, ((0, 1, 0),), ())
        bench = Bench(program)
        bench.before(1, 0, 1)
        bench.strike("need", 0)
        bench.step()
        self.assertEqual(program, Q)
        held = bench.program()
        bench.step()
        self.assertEqual(held, Program(3, (), ((1, 0, 1),)))

    def test_drawn(self):
        """Many changes, held against lists, some of them refused."""
        source = random.Random(111)
        refused = 0
        done = 0
        for program in drawn_programs(112, 100, 4, 5, 2):
            bench = Bench(program)
            past = [program]
            for _ in range(25):
                now = past[-1]
                steps, rows = now.steps, {"need": list(now.needs), "before": list(now.befores)}
                word = source.choice(("need", "before"))
                act = source.choice(("put", "put", "strike", "change", "step", "back"))
                link = (source.randrange(steps), source.randrange(steps), source.choice((0, 1, 2, 6)))
                index = source.randrange(len(rows[word])) if rows[word] else 0
                if act == "put":
                    rows[word].append(link)
                    call = (word,) + link
                elif act == "step":
                    steps += 1
                    call = ("step",)
                elif act == "back" or not rows[word]:
                    call = ("back",)
                elif act == "strike":
                    del rows[word][index]
                    call = ("strike", word, index)
                else:
                    rows[word][index] = rows[word][index][:2] + (link[2],)
                    call = ("change", word, index, link[2])
                if call == ("back",):
                    if len(past) == 1:
                        self.check_refused(bench, NothingDone, "back")
                    else:
                        bench.back()
                        past.pop()
                else:
                    try:
                        made = Program(steps, tuple(rows["need"]), tuple(rows["before"]))
                    except CellError as error:
                        found = self.check_refused(bench, type(error), *call)
                        self.assertEqual(vars(found), vars(error))
                        refused += 1
                    else:
                        self.assertIsNone(getattr(bench, call[0])(*call[1:]))
                        past.append(made)
                        done += 1
                self.check_held(bench, past[-1], len(past) - 1)
        self.assertGreater(min(refused, done), 100)


class Refused(BenchTests):
    """Point 11.1: the errors, in their order."""

    def test_no_step(self):
        wrong = odd_things() + [2, 3, -1, 10 ** 39, True, "0"]
        for thing in wrong:
            bench = Bench(R)
            for method in ("need", "before"):
                self.check_refused(bench, NoStep, method, thing, 0, 1)
                self.check_refused(bench, NoStep, method, 0, thing, 1)
                self.check_refused(bench, NoStep, method, thing, thing, None)
                self.check_refused(bench, NoStep, method, 0, thing, 7)

    def test_no_rounds(self):
        for thing in odd_things() + [-1, 7, 10 ** 39, True, "1", (1,)]:
            bench = Bench(R)
            for method in ("need", "before"):
                self.check_refused(bench, NoNumber, method, 0, 1, thing)
            self.check_refused(bench, NoNumber, "change", "need", 0, thing)
            # Rounds are judged ahead of the link.
            self.check_refused(bench, NoNumber, "change", "turn", None, thing)
            self.check_refused(Bench(FULL), NoNumber, "need", 0, 1, thing)

    def test_no_link(self):
        words = [thing for thing in odd_things() if thing != "need"] + ["turn", "needs", "befores", "Need", "before ", 0]
        bench = Bench(R)
        for word in words:
            self.check_refused(bench, NoLink, "strike", word, 0)
            self.check_refused(bench, NoLink, "change", word, 0, 1)
        for index in odd_things() + [1, 2, -1, False, True, "0", 10 ** 39, (0,)]:
            for word in ("need", "before", "turn"):
                self.check_refused(bench, NoLink, "strike", word, index)
                self.check_refused(bench, NoLink, "change", word, index, 1)
        self.check_refused(Bench(P), NoLink, "strike", "before", 0)
        self.check_refused(Bench(BARE), NoLink, "change", "need", 0, 1)

    def test_bad_program(self):
        bench = Bench(R)
        self.assertEqual(self.check_refused(bench, BadProgram, "need", 0, 1, 0).part, "needs")
        self.assertEqual(self.check_refused(bench, BadProgram, "before", 1, 0, 2).part, "befores")
        bench.before(1, 0, 3)
        self.assertEqual(self.check_refused(bench, BadProgram, "change", "before", 1, 2).part, "befores")
        bench.need(0, 1, 4)
        self.assertEqual(self.check_refused(bench, BadProgram, "change", "need", 0, 4).part, "needs")
        full = Bench(FULL)
        self.assertEqual(self.check_refused(full, BadProgram, "step").part, "steps")
        self.assertEqual(self.check_refused(full, BadProgram, "need", 11, 11, 1).part, "needs")
        self.assertEqual(self.check_refused(full, BadProgram, "before", 11, 11, 1).part, "befores")
        # More links than may be, and a ring besides: the links are told.
        self.assertEqual(self.check_refused(full, BadProgram, "need", 11, 11, 0).part, "needs")
        full.strike("need", 39)
        self.assertIsNone(full.need(11, 11, 1))

    def test_stuck(self):
        bench = Bench(R)
        for call in (
            ("need", 1, 0, 0), ("before", 1, 0, 0), ("before", 1, 1, 0), ("need", 0, 0, 0), ("change", "before", 0, 0),
        ):
            ring = self.check_refused(bench, Stuck, *call).ring
            needs, befores = R.needs, R.befores
            if call[0] == "need":
                needs = needs + (call[1:],)
            elif call[0] == "before":
                befores = befores + (call[1:],)
            else:
                befores = ((1, 0, 0),)
            self.assertTrue(reference.is_zero_ring(needs, befores, ring))

    def test_refused_is_not_taken_back(self):
        bench = Bench(Q)
        bench.before(1, 0, 2)
        self.check_refused(bench, Stuck, "need", 1, 0, 0)
        self.check_refused(bench, NoLink, "strike", "need", 1)
        bench.back()
        self.check_held(bench, Q, 0)
        self.check_refused(bench, NothingDone, "back")


class Answers(BenchTests):
    """Point 11.1: cells, following, crowd and lot are those of the program that is held."""

    def check(self, bench):
        program = bench.program()
        self.assertEqual(bench.cells(), least_cells(program))
        self.assertEqual(bench.following(), following(program))
        self.assertEqual(bench.crowd(), crowd(program))
        self.assertEqual(bench.lot(), lot(program))
        if bench.cells() is None:
            self.assertTrue(is_lot(program, bench.lot()))
        else:
            self.assertTrue(is_following(program, bench.following()))
            self.assertTrue(is_crowd(program, bench.crowd()))
            self.assertEqual(len(bench.crowd()), bench.cells())

    def test_ordinary(self):
        bench = Bench(Q)
        self.check(bench)
        self.assertEqual((bench.cells(), bench.lot()), (None, ((0,), ())))
        bench.before(1, 0, 2)
        self.check(bench)
        self.assertEqual((bench.cells(), bench.following(), bench.lot()), (2, ((0, 2),), None))
        bench.change("before", 0, 5)
        self.assertEqual((bench.cells(), bench.following()), (5, ((0, 5),)))
        bench.strike("need", 0)
        self.check(bench)
        self.assertEqual((bench.cells(), bench.following(), bench.crowd()), (0, (), []))
        bench.back()
        self.assertEqual(bench.cells(), 5)

    def test_named(self):
        for program in NAMED:
            bench = Bench(program)
            self.check(bench)
            bench.step()
            self.check(bench)

    def test_new_lists(self):
        bench = Bench(T)
        bench.crowd().clear()
        self.assertEqual(len(bench.crowd()), 3)


class Back(BenchTests):
    """Point 11.1: back, depth, trying and copy."""

    def test_back(self):
        bench = Bench(Q)
        self.check_refused(bench, NothingDone, "back")
        seen = [bench.program()]
        for call in (("before", 1, 0, 2), ("step",), ("need", 2, 0, 1), ("change", "need", 0, 3), ("strike", "need", 1)):
            getattr(bench, call[0])(*call[1:])
            seen.append(bench.program())
        self.assertEqual(bench.depth(), 5)
        for depth in (4, 3, 2):
            self.assertIsNone(bench.back())
            self.check_held(bench, seen[depth], depth)
        bench.step()
        self.check_held(bench, Program(4, ((0, 1, 0),), ((1, 0, 2),)), 3)
        for depth in (2, 1, 0):
            bench.back()
            self.check_held(bench, seen[depth], depth)
        self.check_refused(bench, NothingDone, "back")

    def test_trying_returns(self):
        bench = Bench(Q)
        marks = [object(), None, 7, [1]]
        for mark in marks:
            self.assertIs(bench.trying(lambda held: mark), mark)
        self.assertIs(bench.trying(lambda held: held), bench)
        self.check_held(bench, Q, 0)

    def test_trying_changes(self):
        bench = Bench(Q)
        bench.before(1, 0, 2)

        def action(held):
            self.assertIs(held, bench)
            self.check_held(held, R, 1)
            held.step()
            held.change("before", 0, 4)
            self.assertEqual(held.depth(), 3)
            return held.cells()

        self.assertEqual(bench.trying(action), 4)
        self.check_held(bench, R, 1)
        self.assertEqual(bench.cells(), 2)
        bench.back()
        self.check_held(bench, Q, 0)

    def test_trying_takes_back_what_was_done_ahead(self):
        bench = Bench(Q)
        bench.before(1, 0, 2)
        bench.step()

        def action(held):
            held.back()
            held.back()
            self.check_held(held, Q, 0)
            self.check_refused(held, NothingDone, "back")
            held.step()
            held.step()
            held.step()
            return held.depth()

        self.assertEqual(bench.trying(action), 3)
        self.check_held(bench, Program(3, ((0, 1, 0),), ((1, 0, 2),)), 2)
        bench.back()
        self.check_held(bench, R, 1)
        bench.back()
        self.check_held(bench, Q, 0)

    def test_trying_within(self):
        bench = Bench(Q)

        def inner(held):
            held.strike("need", 0)
            held.back()
            held.back()
            held.step()
            return parts(held.program())

        def outer(held):
            held.before(1, 0, 3)
            found = held.trying(inner)
            self.check_held(held, Program(2, ((0, 1, 0),), ((1, 0, 3),)), 1)
            with self.assertRaises(KeyError):
                held.trying(failing)
            self.check_held(held, Program(2, ((0, 1, 0),), ((1, 0, 3),)), 1)
            held.step()
            return found

        def failing(held):
            held.back()
            held.step()
            raise KeyError("within")

        self.assertEqual(bench.trying(outer), (3, ((0, 1, 0),), ()))
        self.check_held(bench, Q, 0)

    def test_trying_raises(self):
        bench = Bench(Q)
        bench.before(1, 0, 2)
        for error in (ValueError("x"), NoStep(), StopIteration(), KeyboardInterrupt(), ZeroDivisionError()):

            def action(held):
                held.step()
                held.back()
                held.back()
                raise error

            with self.assertRaises(type(error)) as caught:
                bench.trying(action)
            self.assertIs(caught.exception, error)
            self.check_held(bench, R, 1)
        with self.assertRaises(Stuck):
            bench.trying(lambda held: held.need(0, 0, 0))
        with self.assertRaises(NothingDone):
            bench.trying(lambda held: (held.back(), held.back()))
        self.check_held(bench, R, 1)

    def test_copy(self):
        bench = Bench(Q)
        bench.before(1, 0, 2)
        other = bench.copy()
        self.assertIs(type(other), Bench)
        self.assertIsNot(other, bench)
        self.check_held(other, R, 1)
        other.step()
        bench.strike("need", 0)
        bench.strike("before", 0)
        self.check_held(other, Program(3, ((0, 1, 0),), ((1, 0, 2),)), 2)
        self.check_held(bench, Program(2, (), ()), 3)
        other.back()
        other.back()
        self.check_held(other, Q, 0)
        self.check_refused(other, NothingDone, "back")
        self.check_held(bench, Program(2, (), ()), 3)
        for program, depth in ((Program(2, (), ((1, 0, 2),)), 2), (R, 1), (Q, 0)):
            bench.back()
            self.check_held(bench, program, depth)

    def test_copy_within_trying(self):
        bench = Bench(Q)

        def action(held):
            held.before(1, 0, 2)
            other = held.copy()
            held.step()
            return other

        other = bench.trying(action)
        self.check_held(bench, Q, 0)
        self.check_held(other, R, 1)
        other.back()
        self.check_held(other, Q, 0)

    def test_equal_to_nothing_else(self):
        for thing in odd_things():
            self.assertFalse(Bench(P) == thing)


class BeyondTheBounds(BenchTests):
    """Points 1.1 and 11.1: a bench of a program that was returned and could not be constructed."""

    def test_held(self):
        for program in (side_by_side(GREAT, P), unrolled(T, 6), joined(FULL, [(11, 11, 1)])):
            bench = Bench(program)
            self.check_held(bench, program, 0)
            self.assertEqual(bench.cells(), least_cells(program))
            self.assertEqual(bench.following(), following(program))
            self.assertEqual(bench.crowd(), crowd(program))
            self.assertEqual(bench.copy().program(), program)
            self.assertEqual(bench.trying(lambda held: held.cells()), least_cells(program))
            self.check_refused(bench, NothingDone, "back")
        self.assertIsNotNone(Bench(side_by_side(LOOSE, GREAT)).lot())

    def test_too_many_steps(self):
        bench = Bench(side_by_side(GREAT, P))
        calls = (("need", 14, 14, 1), ("before", 0, 14, 1), ("strike", "need", 0), ("change", "before", 0, 5), ("step",))
        for call in calls:
            self.assertEqual(self.check_refused(bench, BadProgram, *call).part, "steps")
        self.check_refused(bench, NoStep, "need", 15, 0, 1)
        self.check_refused(bench, NoNumber, "need", 14, 0, 7)
        self.check_refused(bench, NoLink, "strike", "need", len(bench.program().needs))
        self.check_refused(bench, BadProgram, "strike", "need", len(bench.program().needs) - 1)

    def test_too_many_links(self):
        program = joined(FULL, [(11, 11, 1), (11, 11, 2)])
        self.assertEqual(len(program.befores), 42)
        bench = Bench(program)
        self.assertEqual(self.check_refused(bench, BadProgram, "strike", "before", 0).part, "befores")
        self.assertEqual(self.check_refused(bench, BadProgram, "strike", "need", 0).part, "befores")
        self.assertEqual(self.check_refused(bench, BadProgram, "need", 11, 11, 1).part, "needs")
        # One too many can be taken out.
        bench = Bench(joined(FULL, [(11, 11, 1)]))
        self.assertIsNone(bench.strike("before", 40))
        self.check_held(bench, FULL, 1)
        bench.back()
        self.assertEqual(len(bench.program().befores), 41)

    def test_too_many_rounds(self):
        program = waiting(Q, ((0, 7),))
        self.assertEqual(program.befores, ((1, 0, 7),))
        bench = Bench(program)
        self.assertEqual(self.check_refused(bench, BadProgram, "step").part, "befores")
        self.assertEqual(self.check_refused(bench, BadProgram, "before", 1, 1, 1).part, "befores")
        self.assertIsNone(bench.change("before", 0, 6))
        self.check_held(bench, Program(2, ((0, 1, 0),), ((1, 0, 6),)), 1)
        bench.back()
        self.check_held(bench, program, 0)
        self.assertEqual(bench.cells(), 7)
        self.assertIsNone(bench.strike("before", 0))
        self.check_held(bench, Q, 1)


if __name__ == "__main__":
    unittest.main()
