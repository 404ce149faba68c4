"""Points 0.3 and 0.4 for each function and class of the interface."""

import inspect
import unittest

from aheadcells import (
    bench, cheapest, codes, counting, desk, followings, helping, joining, kinds, orders, paces, pieces, programs,
    reading, running, shorts, tables, texts, values, ways, yards,
)
from aheadcells.errors import (
    BadProgram, BadText, CellError, NoCell, NoChoices, NoCounts, NoCrowd, NoDoing, NoFollowing, NoFraction, NoKinds, NoLine,
    NoLink, NoLinks, NoMaker, NoNumber, NoNumbers, NoOrder, NoPrices, NoShort, NoStep, NoTable, NothingDone, NoTimes,
    NotYet, NoValue, Stuck,
)
from aheadcells.programs import Program
from tests import interface
from tests.samples import P, Q, R, T, nested, nested_dict, odd_things

TABLE = ((0,), (0,), (0,))
PAPER = {((1, 0), (2, 0), (0, 1)): ((1, 0), (2, 0), (0, 1))}
LATE = ((0, 1), (1, 1), (3, 1))
CODE = codes.code_of(P, TABLE)
# What judges its last argument, in the place of an error.
JUDGE = "judge"
# What is always right, so that nothing is told of other things.
RIGHT = None

# For each function a call that is right, and for each argument the error of what is none.
CALLS = (
    (programs.readers, (P, 0), (RIGHT, NoStep)),
    (programs.makers, (P,), (RIGHT,)),
    (orders.fault, (P, (0, 1, 0)), (RIGHT, NoOrder)),
    (orders.can_be_done, (P, (0, 1)), (RIGHT, NoOrder)),
    (orders.wanted, (P, (0,)), (RIGHT, NoOrder)),
    (orders.drawn_order, (P, [3, 1, 4]), (RIGHT, NoChoices)),
    (orders.ahead, (P, 0, 1), (RIGHT, NoStep, NoStep)),
    (orders.ahead_order, (P, 0, 1, 1), (RIGHT, NoStep, NoStep, NoNumber)),
    (ways.least_rounds, (P, 0, 1), (RIGHT, NoStep, NoStep)),
    (ways.least_way, (P, 0, 1), (RIGHT, NoStep, NoStep)),
    (ways.is_way, (P, 0, 1, 0, (("need", 0),)), (RIGHT, NoStep, NoStep, NoNumber, JUDGE)),
    (ways.surely, (P, (0, 1), (1, 1)), (RIGHT, NoDoing, NoDoing)),
    (ways.loose_order, (P, (1, 1), (0, 1)), (RIGHT, NoDoing, NoDoing)),
    (ways.needless, (T,), (RIGHT,)),
    (values.distance, (P, 0, 1), (RIGHT, NoMaker, NoMaker)),
    (values.distances, (P,), (RIGHT,)),
    (values.clash, (R, (0, 1), (0, 2)), (RIGHT, NoValue, NoValue)),
    (values.is_clash, (R, (0, 1), (0, 2), (0, 0)), (RIGHT, NoValue, NoValue, JUDGE)),
    (values.apart, (R, (0, 1), (0, 2)), (RIGHT, NoValue, NoValue)),
    (followings.least_cells, (P,), (RIGHT,)),
    (followings.following, (P,), (RIGHT,)),
    (followings.lot, (Q,), (RIGHT,)),
    (followings.crowd, (T,), (RIGHT,)),
    (followings.crowd_of, (T, 2), (RIGHT, NoNumber)),
    (followings.is_following, (P, ((1, 0), (2, 0), (0, 1))), (RIGHT, JUDGE)),
    (followings.is_crowd, (R, [(0, 1), (0, 2)]), (RIGHT, JUDGE)),
    (followings.is_lot, (Q, ((0,), ())), (RIGHT, JUDGE)),
    (tables.table_of, (P, ((1, 0), (2, 0), (0, 1))), (RIGHT, NoFollowing)),
    (tables.cell, (P, TABLE, (0, 1)), (RIGHT, NoTable, NoValue)),
    (tables.cells_of, (P, TABLE), (RIGHT, NoTable)),
    (tables.run_cells, (P, TABLE, (0, 1)), (RIGHT, NoTable, NoOrder)),
    (tables.cell_row, (P, TABLE, 0, 5), (RIGHT, NoTable, NoNumber, NoNumber)),
    (tables.table_clash, (R, ((0,),)), (RIGHT, NoTable)),
    (tables.is_table_clash, (R, ((0,),), ((0, 1), (0, 2), (0, 0))), (RIGHT, NoTable, JUDGE)),
    (tables.lost, (R, ((0,),), (0, 0)), (RIGHT, NoTable, NoOrder)),
    (running.most_wanted, (T,), (RIGHT,)),
    (running.order_with, (T, 2), (RIGHT, NoNumber)),
    (running.all_wanted, (R, [(0, 1), (0, 2)]), (RIGHT, NoCrowd)),
    (running.is_most_paper, (P, 1, PAPER), (RIGHT, NoNumber, JUDGE)),
    (running.last_readers, (T,), (RIGHT,)),
    (kinds.kind_cells, (P, (0, 0, 4)), (RIGHT, NoKinds)),
    (kinds.kind_price, (P, (0, 0, 4), (3,) * 10), (RIGHT, NoKinds, NoPrices)),
    (paces.waiting, (P, ((1, 1), (2, 1), (0, 2))), (RIGHT, NoShort)),
    (paces.pace, (P, (1, 2, 3)), (RIGHT, NoTimes)),
    (paces.is_pace_paper, (P, (1, 2, 3), (6, 1), LATE), (RIGHT, NoTimes, NoFraction, JUDGE)),
    (cheapest.many_cheapest, (P,), (RIGHT,)),
    (cheapest.cheapest, (P, 0), (RIGHT, NoNumber)),
    (cheapest.always, (P,), (RIGHT,)),
    (cheapest.never, (T,), (RIGHT,)),
    (cheapest.least_with, (P, 0, 1), (RIGHT, NoMaker, NoMaker)),
    (cheapest.least_without, (P, 0, 1), (RIGHT, NoMaker, NoMaker)),
    (joining.side_by_side, (P, Q), (RIGHT, RIGHT)),
    (joining.joined, (Q, [(1, 0, 2)]), (RIGHT, NoLinks)),
    (joining.unrolled, (P, 2), (RIGHT, NoNumber)),
    (joining.moved, (P, (2, 0, 1)), (RIGHT, NoNumbers)),
    (texts.program_text, (P,), (RIGHT,)),
    (texts.order_text, ((0, 1),), (RIGHT,)),
    (texts.following_text, (((0, 1),),), (RIGHT,)),
    (texts.table_text, (TABLE,), (RIGHT,)),
    (reading.read_program, ("steps 1\n",), (BadText,)),
    (reading.read_order, ("0 1",), (BadText,)),
    (reading.read_following, ("0:1",), (BadText,)),
    (reading.read_table, ("row 0\n",), (BadText,)),
    (codes.code_of, (P, TABLE), (RIGHT, NoTable)),
    (codes.is_code, (P, TABLE, CODE), (RIGHT, NoTable, JUDGE)),
    (codes.true_reads, (P, (0, 1)), (RIGHT, NoOrder)),
    (codes.code_reads, (P, TABLE, (0, 1)), (RIGHT, NoTable, NoOrder)),
    (codes.code_break, (R, ((0,),)), (RIGHT, NoTable)),
    (shorts.least_short, (T,), (RIGHT,)),
    (shorts.least_paced, (P, (1, 2, 3), (6, 1)), (RIGHT, NoTimes, NoFraction)),
    (helping.helping, (R, 1, 1), (RIGHT, NoNumber, NoNumber)),
    (helping.is_helping, (R, 1, 1, ((1, 0, 1),)), (RIGHT, NoNumber, NoNumber, JUDGE)),
    (helping.tight, (R,), (RIGHT,)),
    (counting.many_orders, (P, (1, 1, 1)), (RIGHT, NoCounts)),
    (counting.numbered_order, (P, (1, 1, 1), 0), (RIGHT, NoCounts, NoNumber)),
    (counting.order_number, (P, (0, 1)), (RIGHT, NoOrder)),
    (pieces.pieces, (P,), (RIGHT,)),
    (pieces.piece_cells, (P,), (RIGHT,)),
    (pieces.loose_makers, (Q,), (RIGHT,)),
)
# The methods of the classes: how the object is made, the method, a right call, the errors of its arguments.
METHODS = (
    (lambda: bench.Bench(Q), "need", (1, 0, 2), (NoStep, NoStep, NoNumber)),
    (lambda: bench.Bench(Q), "before", (1, 0, 2), (NoStep, NoStep, NoNumber)),
    (lambda: bench.Bench(R), "strike", ("before", 0), (NoLink, NoLink)),
    (lambda: bench.Bench(R), "change", ("before", 0, 3), (NoLink, NoLink, NoNumber)),
    (lambda: bench.Bench(R), "step", (), ()),
    (lambda: bench.Bench(R), "program", (), ()),
    (lambda: bench.Bench(R), "cells", (), ()),
    (lambda: bench.Bench(R), "following", (), ()),
    (lambda: bench.Bench(R), "crowd", (), ()),
    (lambda: bench.Bench(Q), "lot", (), ()),
    (lambda: bench.Bench(R), "depth", (), ()),
    (lambda: bench.Bench(R), "trying", (lambda held: held.depth(),), (RIGHT,)),
    (lambda: yards.Yard(R, 2), "do", (0,), (NoStep,)),
    (lambda: yards.Yard(R, 2), "contents", (), ()),
    (lambda: yards.Yard(R, 2), "so_far", (), ()),
    (lambda: yards.Yard(R, 2), "can_do", (), ()),
    (lambda: yards.Yard(R, 2), "depth", (), ()),
    (lambda: yards.Yard(R, 2), "trying", (lambda held: held.do(0),), (RIGHT,)),
    (desk.Desk, "tell", ("names",), (NoLine,)),
    (desk.Desk, "undoable", (), ()),
)
# Errors that can come of things that are right by themselves, but not with the others, or not yet.
ALSO = {
    "read_program": (BadProgram, Stuck), "joined": (Stuck,), "waiting": (Stuck,), "need": (Stuck,), "before": (Stuck,),
    "change": (Stuck,), "do": (NotYet,), "tell": (NothingDone,),
}


def more_things():
    """Wrong things in which programs, benches, desks and errors stand deep inside others."""
    row = []
    for thing in (P, bench.Bench(P), desk.Desk(), yards.Yard(P, 1), NoStep(), None, b"a", "a", True, 0, {}, range(2), len):
        for _ in range(38):
            thing = (thing,)
        row.append(thing)
        row.extend([(thing, thing), (0, thing), (thing, 0), [thing], (thing, 0, 1), (0, thing, 1), ((0, thing), (0, 1))])
    row.extend([(nested(list, 37), nested(tuple, 37)), [nested_dict(38)], ((0, 1), nested(tuple, 37))])
    return row


def shown(thing):
    """All that is in a thing, so that it can be held against what it was."""
    if isinstance(thing, Program):
        return ("program", thing.steps, thing.needs, thing.befores)
    if isinstance(thing, (tuple, list)):
        return (type(thing), [shown(part) for part in thing])
    if isinstance(thing, dict):
        return (dict, [(shown(key), shown(part)) for key, part in thing.items()])
    return repr(thing)


def own_lists(thing):
    """All lists and dicts in a thing."""
    found = [thing] if isinstance(thing, (list, dict)) else []
    if isinstance(thing, (tuple, list)):
        for part in thing:
            found.extend(own_lists(part))
    if isinstance(thing, dict):
        for part in thing.values():
            found.extend(own_lists(part))
    return found


class WrongThings(unittest.TestCase):
    """Point 0.3: no other error than the named one."""

    def setUp(self):
        self.things = odd_things() + more_things()

    def check_argument(self, call, name, arguments, place, error):
        """Pass all things at one place of a call, and none of them may raise another error."""
        raised = 0
        for thing in self.things:
            row = arguments[:place] + (thing,) + arguments[place + 1:]
            if error is JUDGE:
                self.assertIs(type(call(*row)), bool, (name, thing))
                continue
            try:
                call(*row)
            except CellError as found:
                self.assertIn(type(found), (error,) + ALSO.get(name, ()), (name, place, thing))
                raised += 1
        return raised

    def test_functions(self):
        for function, arguments, named in CALLS:
            function(*arguments)
            for place, error in enumerate(named):
                if error is not RIGHT:
                    raised = self.check_argument(function, function.__name__, arguments, place, error)
                    self.assertTrue(error is JUDGE or raised > 0.9 * len(self.things), function.__name__)

    def test_methods(self):
        for make, name, arguments, named in METHODS:
            for place, error in enumerate(named):
                if error is not RIGHT:
                    held = make()
                    raised = self.check_argument(
                        lambda *row: getattr(held, name)(*row), name, arguments, place, error)
                    self.assertGreater(raised, 0.9 * len(self.things), name)

    def test_constructors(self):
        for part, arguments in (("steps", (P.steps,)), ("needs", (2, ())), ("befores", (2, (), ()))):
            for thing in self.things:
                row = (arguments[:-1] + (thing,) + ((), ()))[:3]
                try:
                    Program(*row)
                except BadProgram as error:
                    self.assertEqual(error.part, part)
        for thing in self.things:
            try:
                yards.Yard(P, thing)
            except CellError as error:
                self.assertIs(type(error), NoNumber)

    def test_strangers(self):
        for thing in self.things:
            if isinstance(thing, int) and not isinstance(thing, bool):
                continue
            with self.assertRaises(NoCell) as caught:
                tables.stranger_clash(T, lambda step, number: thing)
            self.assertIn(caught.exception.value, [(0, 1), (3, 1), (4, 1), (0, 2), (3, 2), (4, 2)])

    def test_judges_are_flags(self):
        for function, arguments, named in CALLS:
            self.assertEqual(function.__name__.startswith("is_"), JUDGE in named, function.__name__)
            if JUDGE in named:
                self.assertIs(function(*arguments), True, function.__name__)
                self.assertEqual(named.index(JUDGE), len(named) - 1)

    def test_nothing_is_left_out(self):
        """Each function and method of the interface is called here; the rest takes no argument, or is told apart."""
        called = [(function.__module__.split(".")[1], function.__name__) for function, arguments, named in CALLS]
        listed = [(module, name) for module, names in interface.FUNCTIONS.items() for name in names]
        self.assertEqual(sorted(called + [("tables", "stranger_clash")]), sorted(listed))
        called = [(type(make()).__name__, name) for make, name, arguments, named in METHODS]
        listed = [(kind, name) for (module, kind), names in interface.METHODS.items() for name in names]
        rest = [("Program", "__eq__"), ("Bench", "back"), ("Bench", "copy"), ("Yard", "back"), ("Yard", "copy")]
        self.assertEqual(sorted(called + rest), sorted(listed))

    def test_arguments_by_position(self):
        """Each function takes just as many arguments as the interface names."""
        for function, arguments, named in CALLS:
            many = len(inspect.signature(function).parameters)
            self.assertEqual((many, len(arguments)), (len(named), len(named)), function.__name__)


class Answers(unittest.TestCase):
    """Point 0.4: arguments stay as they are, what is returned is new, equal calls give equal answers."""

    def check(self, call, arguments, name):
        before = shown(arguments)
        first, second = call(*arguments), call(*arguments)
        self.assertEqual(shown(arguments), before, name)
        self.assertEqual(shown(first), shown(second), name)
        whole = shown(first)
        for one, other in zip(own_lists(first), own_lists(second)):
            self.assertIsNot(one, other, name)
            one.clear()
        self.assertEqual(shown(second), whole, name)
        self.assertEqual(shown(call(*arguments)), whole, name)
        for thing in own_lists(arguments):
            self.assertFalse(any(thing is part for part in own_lists(second)), name)

    def test_functions(self):
        for function, arguments, named in CALLS:
            self.check(function, arguments, function.__name__)

    def test_other_calls(self):
        for function, arguments, named in CALLS:
            if named[0] is RIGHT and type(arguments[0]) is Program and len(arguments) == 1:
                for program in (P, Q, R, T):
                    if function in (cheapest.always, cheapest.never) and program is Q:
                        continue
                    self.check(function, (program,), function.__name__)

    def test_methods(self):
        for make, name, arguments, named in METHODS:
            self.check(lambda *row: getattr(make(), name)(*row), arguments, name)

    def test_strangers(self):
        self.check(lambda: tables.stranger_clash(R, lambda step, number: 0), (), "stranger_clash")

    def test_programs_keep_what_they_are(self):
        whole = [shown(program) for program in (P, Q, R, T)]
        for function, arguments, named in CALLS:
            function(*arguments)
        self.assertEqual([shown(program) for program in (P, Q, R, T)], whole)

    def test_equal_to_nothing_of_another_kind(self):
        """Point 0.4: of objects only programs are equal to one another, and to nothing else."""
        objects = [bench.Bench(P), desk.Desk(), yards.Yard(P, 1), NoStep(), Stuck(()), NoOrder()]
        for thing in odd_things() + more_things():
            for one in objects:
                self.assertFalse(one == thing)
                self.assertTrue(one != thing)
            if not isinstance(thing, Program):
                self.assertFalse(P == thing)
                self.assertTrue(P != thing)
        self.assertEqual(P, Program(P.steps, P.needs, P.befores))

    def test_nothing_changes_on_an_error(self):
        for make, name, arguments, named in METHODS:
            for place, error in enumerate(named):
                held = make()
                before = self.state(held)
                for thing in (None, -1, P, "x", (0, 0), 999):
                    row = arguments[:place] + (thing,) + arguments[place + 1:]
                    if error is not RIGHT:
                        with self.assertRaises(error):
                            getattr(held, name)(*row)
                        self.assertEqual(self.state(held), before, name)

    def state(self, held):
        if isinstance(held, bench.Bench):
            return (shown(held.program()), held.depth())
        if isinstance(held, yards.Yard):
            return (held.so_far(), held.contents(), held.can_do(), held.depth())
        return (held.tell("names"), held.undoable())


if __name__ == "__main__":
    unittest.main()
