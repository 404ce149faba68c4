import random
import unittest

from aheadcells.errors import NoCell, NoFollowing, NoNumber, NoOrder, NoTable, NotRight, NoValue, TooMany
from aheadcells.followings import crowd, following, least_cells
from aheadcells.orders import drawn_order
from aheadcells.programs import Program, makers
from aheadcells.tables import (
    cell,
    cell_row,
    cells_of,
    is_table_clash,
    lost,
    run_cells,
    stranger_clash,
    table_clash,
    table_of,
)
from tests import reference
from tests.samples import (
    BARE, FAR, GREAT, LONE, LOOSE, NAMED, P, Q, R, T, bound_program, drawn_programs, odd_things, spoiled,
)


def is_table_by_words(program, thing):
    if type(thing) is not tuple or len(thing) != len(reference.maker_row(program)):
        return False
    for row in thing:
        if type(row) is not tuple or not 1 <= len(row) <= 1000:
            return False
        if not all(type(spot) is int and spot >= 0 for spot in row):
            return False
    return True


def spot_of(program, table, value):
    row = table[reference.maker_row(program).index(value[0])]
    return row[(value[1] - 1) % len(row)]


def is_table_clash_by_words(program, table, thing):
    if type(thing) is not tuple or len(thing) != 3:
        return False
    for value in thing[:2]:
        if type(value) is not tuple or len(value) != 2 or type(value[0]) is not int or type(value[1]) is not int:
            return False
        if value[0] not in reference.maker_row(program) or value[1] < 1:
            return False
    first, second, order = thing
    if first == second or spot_of(program, table, first) != spot_of(program, table, second):
        return False
    if type(order) is not tuple or not all(type(step) is int and step in range(program.steps) for step in order):
        return False
    both = reference.wanted_values(program, order)
    return reference.is_lawful(program, order) and first in both and second in both


def put_by_words(program, table, order):
    """What lies last in each cell behind an order, and the first place at which a wanted value is written over."""
    held = {}
    first_lost = None
    for place, doing in enumerate(reference.doings_of(order)):
        if doing[0] not in reference.maker_row(program):
            continue
        spot = spot_of(program, table, doing)
        still = reference.wanted_values(program, order[:place + 1])
        others = [value for value in still if value != doing and spot_of(program, table, value) == spot]
        if others and first_lost is None:
            first_lost = place
        held[spot] = doing
    return held, first_lost


def drawn_table(source, program, cells, length):
    return tuple(
        tuple(source.randrange(cells) for _ in range(source.randint(1, length)))
        for _ in reference.maker_row(program)
    )


def drawn_orders(source, program, many, length):
    return [drawn_order(program, [source.randrange(60) for _ in range(length)]) for _ in range(many)]


def looser(source, row):
    """A following with rounds added here and there."""
    return tuple((follower, rounds + source.choice((0, 0, 1, 3))) for follower, rounds in row)


class TablesOf(unittest.TestCase):
    """Point 6.1: the table for a following."""

    def check(self, program, thing):
        table = table_of(program, thing)
        self.assertTrue(is_table_by_words(program, table))
        self.assertEqual(cells_of(program, table), list(range(sum(rounds for follower, rounds in thing))))
        longest = max([len(row) for row in table], default=1)
        self.assertTrue(reference.table_is_right(program, table, 2 * longest + 7))
        self.assertIsNone(table_clash(program, table))
        return table

    def test_ordinary(self):
        self.assertEqual(self.check(BARE, ()), ())
        self.check(P, ((1, 0), (2, 0), (0, 1)))
        self.check(P, ((0, 1), (2, 0), (1, 1)))
        self.check(P, ((1, 3), (2, 5), (0, 1)))
        self.check(R, ((0, 2),))
        self.check(LONE, ((0, 7),))

    def test_drawn(self):
        source = random.Random(61)
        for program in drawn_programs(62, 60) + [bound_program(source, 4, 6, 2) for _ in range(30)]:
            if following(program) is not None:
                self.check(program, following(program))
                self.check(program, looser(source, following(program)))

    def test_rings_of_a_thousand(self):
        table = table_of(R, ((0, 1000),))
        self.assertEqual(cells_of(R, table), list(range(1000)))
        self.assertEqual(len(table[0]), 1000)
        table = table_of(P, ((1, 400), (2, 300), (0, 300)))
        self.assertEqual(cells_of(P, table), list(range(1000)))
        self.assertIsNone(table_clash(P, table))
        table = table_of(P, ((0, 1000), (2, 600), (1, 400)))
        self.assertEqual(cells_of(P, table), list(range(2000)))
        for thing in (((0, 1), (2, 601), (1, 400)), ((1, 401), (2, 300), (0, 300)), ((0, 1), (1, 1), (2, 10 ** 39))):
            with self.assertRaises(TooMany) as caught:
                table_of(P, thing)
            self.assertEqual(caught.exception.most, 1000)
        with self.assertRaises(TooMany):
            table_of(R, ((0, 1001),))

    def test_no_following(self):
        for thing in odd_things() + [((0, 1),), ((0, 2), (0, 2)), [(0, 2)], ((True, 2),), ((1, 2),), ((0, -2),)]:
            for program in (R, Q):
                with self.assertRaises(NoFollowing):
                    table_of(program, thing)
        # No following for more than one cause, with far too many rounds.
        with self.assertRaises(NoFollowing):
            table_of(P, ((0, 5000), (0, 5000), (1, 5000)))


class Cells(unittest.TestCase):
    """Point 6.1: tables and the cells in them."""

    def test_cell(self):
        table = ((5, 7, 5), (0,), (2, 3))
        self.assertEqual([cell(T, table, (0, number)) for number in range(1, 8)], [5, 7, 5, 5, 7, 5, 5])
        self.assertEqual(cell(T, table, (3, 12)), 0)
        self.assertEqual([cell(T, table, (4, number)) for number in (1, 2, 3)], [2, 3, 2])
        self.assertEqual(cell(T, table, (4, 10 ** 39)), 3)
        self.assertEqual(cell(T, table, (0, 10 ** 39)), 5)
        self.assertEqual(cell(T, table, (0, 10 ** 39 + 1)), 7)

    def test_cells_of(self):
        self.assertEqual(cells_of(T, ((5, 7, 5), (0,), (2, 3))), [0, 2, 3, 5, 7])
        self.assertEqual(cells_of(R, ((10 ** 39, 0),)), [0, 10 ** 39])
        self.assertEqual(cells_of(BARE, ()), [])
        cells_of(R, ((4,),)).append(5)
        self.assertEqual(cells_of(R, ((4,),)), [4])

    def test_rows_of_a_thousand(self):
        row = tuple(range(1000))
        self.assertEqual(cell(R, (row,), (0, 1001)), 0)
        self.assertIsNone(table_clash(R, (row,)))
        for call in (cells_of, table_clash):
            with self.assertRaises(NoTable):
                call(R, (row + (1000,),))
        with self.assertRaises(NoTable):
            cell(R, (row + (1000,),), (0, 1))

    def calls_with(self, table):
        return (
            (cell, table, None), (cells_of, table), (table_clash, table), (is_table_clash, table, None),
            (run_cells, table, None), (lost, table, None), (cell_row, table, None, None),
        )

    def test_no_table(self):
        wrong = [((1,), ()), ((1,), (2,), ()), ((0,), (1,), (-1,)), ((0,), (1,), (True,)), ((0,), (1,), [2]),
                 [(0,), (1,), (2,)], ((0,), (1,)), ((0,), (1,), (2,), (3,)), ((0,), (1,), 2), ((0,), (1,), "2")]
        for thing in odd_things() + wrong:
            for call, *more in self.calls_with(thing):
                with self.assertRaises(NoTable):
                    call(T, *more)
        for thing in spoiled(((0, 1), (0,), (2,))):
            if is_table_by_words(T, thing):
                self.assertEqual(cells_of(T, thing), sorted({spot for row in thing for spot in row}))
            else:
                for call, *more in self.calls_with(thing):
                    with self.assertRaises(NoTable):
                        call(T, *more)

    def test_no_value(self):
        for thing in odd_things() + [(1, 1), (0, 0), (0, True), [0, 1], (0, 1, 1), (3,), (6, 1)]:
            if type(thing) is tuple and thing == (0, 1):
                continue
            with self.assertRaises(NoValue):
                cell(T, ((0,), (1,), (2,)), thing)


class Right(unittest.TestCase):
    """Point 6.2: which tables are right."""

    def check(self, program, table, top):
        found = table_clash(program, table)
        self.assertEqual(found is None, reference.table_is_right(program, table, top), (program.needs, table))
        if found is not None:
            self.assertIs(type(found), tuple)
            self.assertTrue(is_table_clash_by_words(program, table, found))
            self.assertIs(is_table_clash(program, table, found), True)
        return found is None

    def test_ordinary(self):
        self.assertIsNone(table_clash(R, ((0, 1),)))
        self.check(R, ((0,),), 10)
        self.check(T, ((0,), (1,), (2,)), 10)
        self.check(T, ((0,), (1,), (1,)), 10)
        self.check(T, ((0,), (0,), (1,)), 10)
        self.check(P, ((0,), (0,), (0,)), 10)
        self.check(P, ((7,), (7, 8), (8, 7)), 10)
        self.assertIsNone(table_clash(BARE, ()))

    def test_drawn(self):
        source = random.Random(63)
        judged = {True: 0, False: 0}
        for program in drawn_programs(64, 60) + [bound_program(source, 3, 2, 1) for _ in range(60)]:
            for _ in range(6):
                # Rows of up to 4 come together again within 12 rounds.
                judged[self.check(program, drawn_table(source, program, 6, 4), 26)] += 1
        self.assertGreater(min(judged.values()), 60)

    def test_one_place_wrong(self):
        source = random.Random(65)
        judged = {True: 0, False: 0}
        for _ in range(30):
            program = bound_program(source, 4, 5, 2)
            row = following(program)
            if row == ():
                continue
            table = [list(part) for part in table_of(program, looser(source, row))]
            part = source.choice(table)
            part[source.randrange(len(part))] = source.randrange(sum(rounds for follower, rounds in row))
            table = tuple(tuple(part) for part in table)
            judged[self.check(program, table, 2 * max(len(part) for part in table) + 8)] += 1
        self.assertGreater(min(judged.values()), 2)

    def test_rows_that_seldom_meet(self):
        program = Program(2, ((0, 0, 1), (1, 1, 1)), ((0, 1, 1), (1, 0, 1)))
        # The only shared cell is met in the first rounds of unlike lengths, or much later, or never.
        self.assertFalse(self.check(program, ((0, 1, 2, 3, 4, 5, 6), (8, 9, 10, 11, 0)), 80))
        self.assertFalse(self.check(program, ((0,) + tuple(range(1, 30)), tuple(range(40, 70)) + (0,)), 960))
        # Of rounds that are 2 apart no values clash, and lengths of 8 and 12 keep the differences by 4.
        for place in range(12):
            row = tuple(range(20, 20 + place)) + (0,) + tuple(range(40, 51 - place))
            self.assertEqual(self.check(program, (tuple(range(8)), row), 60), place in (2, 6, 10))

    def test_one_shared_cell_anywhere(self):
        """Two makers, apart by few rounds, by many, by none in one direction, or by none at all."""
        own = ((0, 0, 1), (1, 1, 1))
        befores = (
            ((0, 1, 0), (1, 0, 1)), ((0, 1, 3), (1, 0, 0)), ((0, 1, 6), (1, 0, 6)), ((0, 1, 2),), ((1, 0, 0),), (),
        )
        judged = {True: 0, False: 0}
        for row in befores:
            program = Program(2, own, row)
            for lengths in ((7, 7), (6, 9), (1, 5), (12, 6)):
                for first in range(lengths[0]):
                    for second in range(lengths[1]):
                        table = [[100 * maker + spot for spot in range(lengths[maker])] for maker in (0, 1)]
                        table[0][first] = table[1][second] = 99
                        table = tuple(tuple(part) for part in table)
                        judged[self.check(program, table, 26)] += 1
        self.assertGreater(min(judged.values()), 100)

    def test_one_row_with_a_cell_twice(self):
        for rounds in (1, 2, 5, 6):
            program = Program(2, ((0, 1, 1),), ((1, 0, rounds - 1),))
            for length in (2, 5, 9):
                for first in range(length):
                    for second in range(first):
                        row = [spot + 1 for spot in range(length)]
                        row[first] = row[second] = 0
                        self.check(program, (tuple(row),), 30)

    def test_fifth_fact(self):
        source = random.Random(66)
        for program in [P, R, T, FAR, LOOSE, Q] + [bound_program(source, 3, 4, 2) for _ in range(20)]:
            least = least_cells(program)
            for _ in range(10):
                table = drawn_table(source, program, 9, 5)
                if least is None or len(cells_of(program, table)) < least:
                    self.assertIsNotNone(table_clash(program, table))

    def test_judging(self):
        table = ((0, 1), (0,), (2,))
        right = table_clash(T, table)
        judged = {True: 0, False: 0}
        things = spoiled(right) + odd_things() + [right, ((3, 1), (0, 1), right[2]), (right[0], right[0], right[2])]
        for thing in things:
            found = is_table_clash(T, table, thing)
            self.assertIs(found, is_table_clash_by_words(T, table, thing))
            judged[found] += 1
        self.assertGreater(judged[True], 1)
        self.assertGreater(judged[False], 100)
        # Both are wanted, but in unlike cells.
        self.assertIs(is_table_clash(T, ((0,), (1,), (2,)), right), False)
        self.assertIs(is_table_clash(R, ((0, 1),), ((0, 1), (0, 2), (0, 0))), False)
        self.assertIs(is_table_clash(R, ((0, 0),), ((0, 1), (0, 2), (0, 0))), True)
        self.assertIs(is_table_clash(R, ((0, 0),), ((0, 1), (0, 1), (0, 0))), False)


class Strangers(unittest.TestCase):
    """Point 6.3."""

    def check(self, program, deal, broken):
        found = stranger_clash(program, deal)
        self.assertEqual(found is not None, broken)
        if found is not None:
            first, second, order = found
            self.assertEqual(deal(*first), deal(*second))
            both = reference.wanted_values(program, order)
            self.assertTrue(first != second and first in both and second in both)
            self.assertTrue(reference.is_lawful(program, order))

    def test_right_tables(self):
        for program in (P, R, T, FAR, LONE, BARE):
            table = table_of(program, following(program))
            self.check(program, lambda step, number: -cell(program, table, (step, number)), False)

    def test_too_few_cells(self):
        for program in (R, T, FAR, LONE):
            least = least_cells(program)
            self.check(program, lambda step, number: (step * 3 + number) % (least - 1), True)
            self.check(program, lambda step, number: 10 ** 39, True)

    def test_unlike_cells(self):
        for program in NAMED:
            self.check(program, lambda step, number: number * 12 + step, False)

    def test_lots(self):
        for program in (Q, LOOSE):
            self.check(program, lambda step, number: (number * 12 + step) % 99, True)
            asked = []
            stranger_clash(program, lambda step, number: asked.append((step, number)) or len(asked))
            self.assertEqual(len(set(asked)), 100)

    def test_who_is_asked(self):
        for program in (P, R, T, FAR, GREAT):
            asked = []
            self.assertIsNone(stranger_clash(program, lambda step, number: asked.append((step, number)) or len(asked)))
            self.assertEqual(len(set(asked)), min(200, least_cells(program)))
            spans = reference.distance_dict(program)
            for first in asked:
                self.assertIn(first[0], makers(program))
                for second in asked:
                    self.assertTrue(first == second or reference.values_clash(spans, first, second))

    def test_no_integer(self):
        for thing in odd_things():
            if type(thing) is int:
                continue
            for program in (P, T, Q):
                with self.assertRaises(NoCell) as caught:
                    stranger_clash(program, lambda step, number: thing)
                self.assertIn(caught.exception.value[0], makers(program))

    def test_first_that_gives_no_integer(self):
        for after in (1, 2, 3):
            asked = []

            def deal(step, number):
                asked.append((step, number))
                return len(asked) if len(asked) < after else True

            with self.assertRaises(NoCell) as caught:
                stranger_clash(T, deal)
            self.assertEqual(caught.exception.value, asked[after - 1])
            self.assertEqual(asked[after:], [])

    def test_errors_of_the_stranger_go_on(self):
        def deal(step, number):
            raise KeyError(step)

        with self.assertRaises(KeyError):
            stranger_clash(T, deal)


class Running(unittest.TestCase):
    """Points 6.4 and 6.5."""

    def test_run_cells(self):
        self.assertEqual(run_cells(R, ((4, 2),), ()), [None, None])
        self.assertEqual(run_cells(R, ((4, 2),), (0, 0)), [(0, 2), (0, 1)])
        self.assertEqual(run_cells(R, ((4, 2),), (0, 1, 0, 1, 0)), [(0, 2), (0, 3)])
        self.assertEqual(run_cells(P, ((0,), (0,), (0,)), (0, 1)), [(1, 1)])
        self.assertEqual(run_cells(BARE, (), (0, 0)), [])
        run_cells(R, ((4, 2),), ()).append(1)
        self.assertEqual(run_cells(R, ((4, 2),), ()), [None, None])

    def test_lost(self):
        self.assertIsNone(lost(R, ((0, 1),), (0, 0, 1, 0)))
        self.assertEqual(lost(R, ((0,),), (0, 1, 0, 0)), 3)
        self.assertEqual(lost(T, ((0,), (0,), (1,)), (0, 2, 4, 1, 3)), None)
        self.assertEqual(lost(T, ((0,), (0,), (1,)), (0, 1, 3)), 2)
        # The last reading and the making of a value may be one doing.
        self.assertIsNone(lost(P, ((0,), (0,), (0,)), (0, 1, 2, 0, 1, 2)))
        self.assertIsNone(lost(BARE, (), (0, 0)))

    def test_drawn(self):
        source = random.Random(67)
        losses = {True: 0, False: 0}
        for program in drawn_programs(68, 50) + [bound_program(source, 4, 3, 2) for _ in range(30)]:
            for order in drawn_orders(source, program, 4, 14):
                table = drawn_table(source, program, 4, 3)
                held, first_lost = put_by_words(program, table, order)
                contents = [held.get(spot) for spot in cells_of(program, table)]
                self.assertEqual(run_cells(program, table, order), contents)
                self.assertEqual(lost(program, table, order), first_lost)
                losses[first_lost is None] += 1
        self.assertGreater(min(losses.values()), 30)

    def test_right_tables_lose_nothing(self):
        source = random.Random(69)
        for _ in range(30):
            program = bound_program(source, 4, 5, 2)
            table = table_of(program, looser(source, following(program)))
            for order in drawn_orders(source, program, 3, 60):
                self.assertIsNone(lost(program, table, order))

    def test_order_of_errors(self):
        for thing in odd_things() + [(3,), (1,), (0, 1, 0), [0], (True,)]:
            if type(thing) is tuple and thing == ():
                continue
            for call in (run_cells, lost):
                with self.assertRaises(NoOrder):
                    call(P, ((0,), (0,), (0,)), thing)
                with self.assertRaises(NoTable):
                    call(P, ((0,), (0,)), thing)

    def test_cell_row(self):
        self.assertEqual(cell_row(R, ((4, 2),), 2, 3), [(0, 2), (0, 4), (0, 6)])
        self.assertEqual(cell_row(R, ((4, 2),), 4, 0), [])
        self.assertEqual(cell_row(P, ((0,), (0,), (0,)), 0, 4), [(0, 1), (1, 1), (2, 1), (0, 2)])
        self.assertEqual(cell_row(P, ((0,), (0, 3), (0,)), 3, 2), [(1, 2), (1, 4)])
        self.assertEqual(len(cell_row(R, ((4, 2),), 2, 200)), 200)
        cell_row(R, ((4, 2),), 2, 3).append(0)
        self.assertEqual(cell_row(R, ((4, 2),), 2, 1), [(0, 2)])

    def test_cell_row_against_orders(self):
        source = random.Random(70)
        seen = 0
        for program in [bound_program(source, 5, 5, 2) for _ in range(30)] + drawn_programs(71, 30):
            if following(program) is None:
                continue
            table = table_of(program, looser(source, following(program)))
            for order in drawn_orders(source, program, 3, 60):
                put = {}
                for doing in reference.doings_of(order):
                    if doing[0] in makers(program):
                        put.setdefault(spot_of(program, table, doing), []).append(doing)
                for spot, values in put.items():
                    self.assertEqual(cell_row(program, table, spot, len(values)), values)
                    seen += len(values)
        self.assertGreater(seen, 1000)

    def test_cell_row_errors(self):
        for thing in odd_things() + [1, 10 ** 39]:
            if type(thing) is int and thing == 0:
                continue
            with self.assertRaises(NoNumber):
                cell_row(P, ((0,), (0,), (0,)), thing, 1)
            with self.assertRaises(NotRight):
                cell_row(R, ((0,),), thing, thing)
            with self.assertRaises(NoTable):
                cell_row(R, ((0,), (1,)), thing, thing)
        for thing in odd_things() + [201, 10 ** 39]:
            with self.assertRaises(NoNumber):
                cell_row(P, ((0,), (0,), (0,)), 0, thing)
        with self.assertRaises(NotRight):
            cell_row(Q, ((0, 1, 2),), 0, 1)
        with self.assertRaises(NoNumber):
            cell_row(BARE, (), 0, 0)

    def test_equal_calls(self):
        source = random.Random(72)
        for _ in range(20):
            program = bound_program(source, 4, 4, 2)
            twin = Program(program.steps, program.needs, program.befores)
            self.assertEqual(table_of(program, following(program)), table_of(twin, following(twin)))
            table = drawn_table(source, program, 3, 3)
            self.assertEqual(table_clash(program, table), table_clash(twin, table))
            self.assertEqual(crowd(program), crowd(twin))


if __name__ == "__main__":
    unittest.main()
