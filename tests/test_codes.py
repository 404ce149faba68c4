import random
import unittest
from math import lcm

from aheadcells.codes import code_break, code_of, code_reads, is_code, true_reads
from aheadcells.errors import NoOrder, NoTable, TooMany
from aheadcells.followings import following
from aheadcells.joining import side_by_side, unrolled
from aheadcells.orders import drawn_order
from aheadcells.paces import waiting
from aheadcells.programs import Program, makers
from aheadcells.tables import table_clash, table_of
from tests import reference
from tests.samples import (
    BARE, FAR, GREAT, LONE, LOOSE, NAMED, P, Q, R, T, drawn_programs, odd_things, spoiled,
)


def needs_to(program, step):
    """The needs that lead to a step, in their order, as pairs (first step, rounds)."""
    return [(one, rounds) for one, other, rounds in program.needs if other == step]


def code_by_words(program, table):
    """The code, as 14.1 tells it."""
    every = reference.maker_row(program)
    rhythm = 1
    for row in table:
        rhythm = lcm(rhythm, len(row))
    cells = {
        (maker, number): row[(number - 1) % len(row)]
        for maker, row in zip(every, table) for number in range(-8, rhythm + 1)
    }
    return tuple(
        tuple(
            (tuple(cells[one, number - rounds] for one, rounds in needs_to(program, step)), cells.get((step, number)))
            for number in range(1, rhythm + 1)
        )
        for step in range(program.steps)
    )


def run_by_words(program, code, order):
    """What is to be read and what code reads at each place of an order."""
    held = {}
    found = []
    for step, number in reference.doings_of(order):
        reads, writes = code[step][(number - 1) % len(code[step])]
        needs = needs_to(program, step)
        true = tuple((one, number - rounds) if number - rounds >= 1 else None for one, rounds in needs)
        read = tuple(
            held.get(cell) if number - rounds >= 1 else None for cell, (one, rounds) in zip(reads, needs)
        )
        found.append((true, read))
        if writes is not None:
            held[writes] = (step, number)
    return [true for true, read in found], [read for true, read in found]


def drawn_table(source, program, longest=4, cells=4):
    """A table that is as often wrong as right."""
    row = following(program)
    if row is not None and source.random() < 0.5:
        table = list(table_of(program, row))
        if table and source.random() < 0.5:
            place = source.randrange(len(table))
            table[place] = table[place] * source.randint(1, 2)
        return tuple(table)
    return tuple(
        tuple(source.randrange(cells) for _ in range(source.randint(1, longest))) for _ in makers(program)
    )


def drawn(source, program, many):
    return drawn_order(program, [source.randrange(60) for _ in range(many)])


class Code(unittest.TestCase):
    """Point 14.1."""

    def check(self, program, table):
        code = code_of(program, table)
        self.assertEqual(code, code_by_words(program, table))
        self.assertIs(type(code), tuple)
        self.assertIs(is_code(program, table, code), True)
        return code

    def test_ordinary(self):
        self.assertEqual(code_of(R, ((0, 1),)), ((((), 0), ((), 1)), (((0,), None), ((1,), None))))
        self.assertEqual(code_of(P, ((0,), (0,), (0,))), ((((0,), 0),),) * 3)
        self.assertEqual(code_of(P, ((1, 2), (3,), (4, 5))), (
            (((5,), 1), ((4,), 2)), (((1,), 3), ((2,), 3)), (((3,), 4), ((3,), 5))))

    def test_reads_in_the_order_of_needs(self):
        program = Program(3, ((2, 0, 1), (1, 0, 0), (2, 0, 0), (1, 0, 2)), ())
        self.assertEqual(self.check(program, ((1, 2, 3), (9,)))[0], (
            ((9, 1, 9, 2), None), ((9, 2, 9, 3), None), ((9, 3, 9, 1), None)))

    def test_ahead_of_round_1(self):
        program = Program(2, ((0, 1, 3), (1, 1, 6)), ())
        code = self.check(program, ((0, 1), (5, 6, 7, 8)))
        # Round 1 reads what is made in round -2 and -5, if there were such ones.
        self.assertEqual(code[1][0], ((1, 7), 5))
        self.assertEqual(code[1][3], ((0, 6), 8))
        self.assertEqual(code[0], (((), 0), ((), 1), ((), 0), ((), 1)))

    def test_rhythm(self):
        three = Program(3, tuple((step, step, 1) for step in range(3)), ())
        for lengths in ((1, 1, 1), (2, 3, 1), (4, 6, 2), (5, 5, 5), (1, 1, 7), (4, 6, 9)):
            table = tuple(tuple(range(length)) for length in lengths)
            code = self.check(three, table)
            self.assertEqual([len(row) for row in code], [lcm(*lengths)] * 3)

    def test_without_rows(self):
        self.assertEqual(code_of(BARE, ()), ((((), None),), (((), None),)))
        self.assertIs(is_code(BARE, (), ((((), None),), (((), None),))), True)
        self.assertIsNone(code_break(BARE, ()))
        self.assertEqual(code_reads(BARE, (), (0, 1)), [(), ()])

    def test_too_many(self):
        two = Program(2, ((0, 0, 1), (1, 1, 1)), ())
        just = ((0,) * 8, (0,) * 125)
        self.assertEqual(len(code_of(two, just)[0]), 1000)
        self.assertEqual(len(code_of(two, ((0,) * 1000, (0,) * 500))[0]), 1000)
        for lengths in ((7, 143), (1000, 999), (1000, 3), (13, 77), (501, 2), (999, 998)):
            table = tuple((0,) * length for length in lengths)
            for call in (
                lambda: code_of(two, table), lambda: is_code(two, table, None), lambda: is_code(two, table, ()),
                lambda: code_reads(two, table, ()), lambda: code_reads(two, table, None),
                lambda: code_break(two, table),
            ):
                with self.assertRaises(TooMany) as caught:
                    call()
                self.assertEqual(caught.exception.most, 1000)
        wide = side_by_side(GREAT, GREAT)
        with self.assertRaises(TooMany):
            code_of(wide, tuple((0,) * (987 + place) for place in range(14)))

    def test_drawn(self):
        source = random.Random(251)
        for program in list(NAMED) + drawn_programs(252, 100, 5, 6, 4):
            for _ in range(3):
                self.check(program, drawn_table(source, program))

    def test_no_table(self):
        for thing in odd_things() + [[(0,)], ((0,), (1,)), ((),), ([0],), ((True,),), ((-1,),), ((0,) * 1001,), ()]:
            for call in (
                lambda: code_of(R, thing), lambda: is_code(R, thing, None), lambda: code_reads(R, thing, ()),
                lambda: code_reads(R, thing, None), lambda: code_break(R, thing),
            ):
                with self.assertRaises(NoTable):
                    call()

    def test_is_code_of_any_object(self):
        for thing in odd_things():
            for program, table in ((R, ((0, 1),)), (BARE, ()), (P, ((0,), (0,), (0,)))):
                self.assertIs(is_code(program, table, thing), False)

    def test_is_code_changed(self):
        for program, table in ((R, ((0, 1),)), (P, ((0, 1), (1,), (2,))), (LONE, ((0, 1, 2),)), (Q, ((1,),)), (BARE, ())):
            code = code_of(program, table)
            for thing in spoiled(code):
                # What is equal may have flags in it all the same.
                self.assertIs(is_code(program, table, thing), repr(thing) == repr(code), thing)

    def test_is_code_by_hand(self):
        code = code_of(R, ((0, 1),))
        for thing in (
            list(code), (list(code[0]), code[1]), code[:1], code + (code[1],), (code[1], code[0]), code[::-1],
            ((((), 0), ((), True)), code[1]), ((((), False), ((), 1)), code[1]), ((([], 0), ((), 1)), code[1]),
            (code[0], (([0], None), ((1,), None))), (code[0], (((0,), None), ((True,), None))),
            (code[0], (((0,), 0), ((1,), None))), (code[0], (((0,), None),)), (code[0] * 2, code[1] * 2),
            ((((), 0, 0), ((), 1)), code[1]), ((((0,), 0), ((), 1)), code[1]), ((((), None), ((), 1)), code[1]),
        ):
            self.assertIs(is_code(R, ((0, 1),), thing), False, thing)
        self.assertIs(is_code(R, ((0, 1),), tuple(tuple(row) for row in code)), True)


class Reads(unittest.TestCase):
    """Point 14.2: true_reads and code_reads."""

    def check(self, program, table, order):
        """Whether both are the same; each is held against a run that is made here."""
        true, read = run_by_words(program, code_of(program, table), order)
        for found, expected in ((true_reads(program, order), true), (code_reads(program, table, order), read)):
            self.assertIs(type(found), list)
            self.assertTrue(all(type(row) is tuple for row in found))
            self.assertEqual(found, expected)
        return true == read

    def test_ordinary(self):
        self.assertEqual(true_reads(R, (0, 0, 1, 1)), [(), (), ((0, 1),), ((0, 2),)])
        self.assertEqual(code_reads(R, ((0, 1),), (0, 0, 1, 1)), [(), (), ((0, 1),), ((0, 2),)])
        self.assertEqual(code_reads(R, ((0,),), (0, 0, 1, 1)), [(), (), ((0, 2),), ((0, 2),)])
        self.assertEqual(true_reads(P, (0, 1, 2, 0)), [(None,), ((0, 1),), ((1, 1),), ((2, 1),)])
        self.assertEqual(true_reads(P, ()), [])
        self.assertEqual(code_reads(P, ((0,), (1,), (2,)), ()), [])

    def test_a_doing_reads_ahead_of_its_writing(self):
        once = Program(1, ((0, 0, 1),), ())
        self.assertEqual(code_reads(once, ((0,),), (0, 0, 0)), [(None,), ((0, 1),), ((0, 2),)])
        self.assertEqual(true_reads(LONE, (0, 0, 0, 0)), [
            (None, None), ((0, 1), None), ((0, 2), None), ((0, 3), (0, 1))])
        # With two cells the value of round 1 is gone when it is read a second time.
        self.assertEqual(code_reads(LONE, ((0, 1),), (0, 0, 0, 0))[3], ((0, 3), (0, 3)))

    def test_ahead_of_round_1(self):
        """What stood there at the beginning is no value, even if another one was put into the cell."""
        program = Program(3, ((0, 1, 2), (2, 2, 1)), ())
        order = (0, 2, 1, 0, 1, 0, 1)
        self.assertEqual(true_reads(program, order), [(), (None,), (None,), (), (None,), (), ((0, 1),)])
        self.assertEqual(code_reads(program, ((0,), (0,)), order), [(), (None,), (None,), (), (None,), (), ((0, 3),)])

    def test_right_and_wrong_tables_in_drawn_orders(self):
        source = random.Random(253)
        seen = {}
        for program in list(NAMED) + drawn_programs(254, 150, 5, 6, 3):
            for _ in range(4):
                table = drawn_table(source, program)
                right = table_clash(program, table) is None
                same = self.check(program, table, drawn(source, program, source.choice((4, 8, 40))))
                # The ninth fact: for a right table they never differ.
                self.assertTrue(same or not right)
                seen[right, same] = seen.get((right, same), 0) + 1
        self.assertGreater(min(seen[True, True], seen[False, True], seen[False, False]), 30)

    def test_no_order(self):
        for thing in odd_things() + [(0, 0, 0, 0), (1,), [0], (0, 2), (True,), (0, -1)]:
            if thing == ():
                continue
            for call in (lambda: true_reads(R, thing), lambda: code_reads(R, ((0, 1),), thing)):
                with self.assertRaises(NoOrder):
                    call()

    def test_order_of_errors(self):
        for table, order, error in (
            (((0,) * 7,), (1,), NoTable), (((0,) * 1000, (0,) * 999), (1,), TooMany), (((0,), (0,)), (1, 0), NoOrder),
        ):
            two = Program(2, ((0, 1, 0), (1, 1, 1)), ())
            with self.assertRaises(error) as caught:
                code_reads(two, table, order)
            self.assertIs(type(caught.exception), error)

    def test_new_lists(self):
        order = (0, 0, 1)
        for call in (lambda: true_reads(R, order), lambda: code_reads(R, ((0, 1),), order)):
            found = call()
            found.clear()
            self.assertEqual(len(call()), 3)
            self.assertIsNot(call(), call())
        self.assertEqual(order, (0, 0, 1))


class Break(unittest.TestCase):
    """Point 14.2: code_break, and the ninth fact."""

    def check(self, program, table):
        """Whether the table is right; what is told is judged by a run that is made here."""
        order = code_break(program, table)
        self.assertEqual(order is None, table_clash(program, table) is None)
        if order is None:
            return True
        self.assertIs(type(order), tuple)
        self.assertTrue(reference.is_lawful(program, order))
        true, read = run_by_words(program, code_of(program, table), order)
        self.assertNotEqual(true[-1], read[-1])
        self.assertEqual(true_reads(program, order)[-1], true[-1])
        self.assertEqual(code_reads(program, table, order)[-1], read[-1])
        return False

    def test_ordinary(self):
        self.assertTrue(self.check(R, ((0, 1),)))
        self.assertFalse(self.check(R, ((0,),)))
        self.assertEqual(code_break(R, ((0,),)), (0, 0, 1))
        self.assertTrue(self.check(P, ((0,), (0,), (0,))))
        self.assertFalse(self.check(Q, (tuple(range(1000)),)))
        self.assertFalse(self.check(LONE, ((0, 1),)))
        self.assertTrue(self.check(LONE, ((0, 1, 2),)))
        self.assertTrue(self.check(T, table_of(T, following(T))))
        self.assertFalse(self.check(T, ((0,), (0,), (1,))))
        self.assertFalse(self.check(T, ((0,), (1,), (1,))))

    def test_drawn(self):
        source = random.Random(255)
        seen = {True: 0, False: 0}
        for program in list(NAMED) + drawn_programs(256, 250, 5, 6, 4):
            for _ in range(4):
                seen[self.check(program, drawn_table(source, program, 5, 6))] += 1
        self.assertGreater(min(seen.values()), 200)

    def test_tables_that_are_wrong_late(self):
        program = Program(2, ((0, 1, 6),), ((1, 0, 6),))
        right = table_of(program, following(program))
        self.assertTrue(self.check(program, right))
        for length in (20, 31, 97):
            row = tuple(number % 12 for number in range(length))
            self.assertEqual(self.check(program, (row,)), length % 12 == 0)
        self.assertFalse(self.check(program, (tuple(range(500)) + (499,) + tuple(range(501, 1000)),)))

    def test_equal_calls(self):
        for table in (((0,),), ((0, 1, 1),)):
            self.assertEqual(code_break(R, table), code_break(Program(2, R.needs, R.befores), table))


class BeyondTheBounds(unittest.TestCase):
    """Points 1.1, 14.1 and 14.2: programs that were returned."""

    def test_programs_that_were_returned(self):
        source = random.Random(257)
        for program in (
            unrolled(T, 3), side_by_side(T, side_by_side(FAR, P)), waiting(Q, ((0, 12),)), unrolled(FAR, 5),
            side_by_side(LOOSE, unrolled(R, 6)),
        ):
            row = following(program)
            if row is not None:
                table = table_of(program, row)
                self.assertIsNone(code_break(program, table))
                self.assertEqual(code_of(program, table), code_by_words(program, table))
                self.assertIs(is_code(program, table, code_of(program, table)), True)
                order = drawn(source, program, 200)
                self.assertEqual(true_reads(program, order), code_reads(program, table, order))
            table = tuple((0, 1) for _ in makers(program))
            Break.check(self, program, table)
            Reads.check(self, program, table, drawn(source, program, 60))


if __name__ == "__main__":
    unittest.main()
