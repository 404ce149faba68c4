import random
import unittest
from math import lcm

from aheadcells.bench import Bench
from aheadcells.cheapest import always, cheapest, least_with, least_without, many_cheapest, never
from aheadcells.codes import code_break, code_of, code_reads, is_code, true_reads
from aheadcells.counting import many_orders, numbered_order, order_number
from aheadcells.errors import BadProgram, BadText, NoStep, Stuck, TooMany
from aheadcells.followings import (
    crowd, crowd_of, following, is_crowd, is_following, is_lot, least_cells, lot,
)
from aheadcells.helping import helping, is_helping, tight
from aheadcells.joining import joined, moved, side_by_side, unrolled
from aheadcells.kinds import kind_cells, kind_price
from aheadcells.orders import ahead, ahead_order, can_be_done, drawn_order, fault, wanted
from aheadcells.paces import is_pace_paper, pace, waiting
from aheadcells.pieces import loose_makers, piece_cells, pieces
from aheadcells.programs import Program, makers, readers
from aheadcells.reading import read_program
from aheadcells.running import all_wanted, is_most_paper, last_readers, most_wanted, order_with
from aheadcells.shorts import least_paced, least_short
from aheadcells.tables import (
    cell, cell_row, cells_of, is_table_clash, lost, run_cells, stranger_clash, table_clash, table_of,
)
from aheadcells.texts import program_text
from aheadcells.values import apart, clash, distance, distances, is_clash
from aheadcells.ways import is_way, least_rounds, least_way, loose_order, needless, surely
from aheadcells.yards import Yard
from tests import reference
from tests.samples import FAR, GREAT, LOOSE, P, Q, R, T, bound_program

ALL_BEFORES = tuple((one, other, 6) for one in range(7) for other in range(7))


def waiting_twice():
    """Programs that wait for several short followings, one behind another, and so have many befores."""
    source = random.Random(131)
    found = []
    while len(found) < 4:
        made = bound_program(source, 12, 30, 6)
        for _ in range(8):
            every = makers(made)
            followers = list(every)
            source.shuffle(followers)
            thing = tuple((follower, source.randint(6, 9)) for follower in followers)
            try:
                made = waiting(made, thing)
            except Stuck:
                continue
        if len(made.befores) > 40:
            found.append(made)
    return found


def beyond():
    """Programs that were returned and could not be constructed, with and without a lot."""
    return waiting_twice() + [
        side_by_side(T, side_by_side(FAR, GREAT)), side_by_side(P, side_by_side(LOOSE, unrolled(Q, 5))),
        unrolled(T, 3), unrolled(side_by_side(R, P), 6), joined(T, [(0, 5, 0)]), waiting(Q, ((0, 9),)),
        joined(GREAT, ALL_BEFORES), moved(unrolled(FAR, 5), tuple(reversed(range(15)))),
        waiting(side_by_side(R, R), ((2, 11), (0, 9))), unrolled(waiting(Q, ((0, 100),)), 2),
    ]


def is_beyond(program):
    links = program.needs + program.befores
    most = max(len(program.needs), len(program.befores))
    return program.steps > 12 or most > 40 or any(rounds > 6 for one, other, rounds in links)


class Spoken:
    """The parts of a program, to be changed."""

    def __init__(self, program):
        self.steps, self.needs, self.befores = program.steps, program.needs, program.befores


class Returned(unittest.TestCase):
    """Point 1.1, its last sentence: a program that was returned is a program for every function."""

    def setUp(self):
        self.programs = beyond()

    def test_they_are_beyond_the_bounds(self):
        many = [program for program in self.programs if is_beyond(program)]
        self.assertGreaterEqual(len(many), len(self.programs) - 2)
        self.assertTrue(any(program.steps > 12 for program in many))
        self.assertTrue(any(len(program.befores) > 40 and program.steps <= 12 for program in many))
        self.assertTrue(any(program.steps <= 12 and len(program.befores) <= 40 for program in many))

    def test_equal_to_its_like(self):
        for program, twin in zip(self.programs, beyond()):
            self.assertIs(type(program), Program)
            self.assertTrue(program == twin)
            self.assertFalse(program != twin)
            self.assertFalse(program == side_by_side(program, R))
        self.assertEqual(joined(Q, [(1, 0, 2)]), R)
        self.assertEqual(moved(P, (0, 1, 2)), P)

    def test_programs_and_orders(self):
        source = random.Random(132)
        for program in self.programs:
            self.assertEqual(makers(program), tuple(reference.maker_row(program)))
            last = program.steps - 1
            self.assertEqual(readers(program, last), tuple(reference.reader_pairs(program, last)))
            with self.assertRaises(NoStep):
                readers(program, last + 1)
            order = drawn_order(program, [source.randrange(60) for _ in range(60)])
            self.assertTrue(reference.is_lawful(program, order))
            self.assertIsNone(fault(program, order))
            self.assertEqual(can_be_done(program, order), reference.next_steps(program, order))
            self.assertEqual(wanted(program, order), reference.wanted_values(program, order))

    def test_ways(self):
        for program in self.programs:
            least = reference.least_sums(program)
            for one in range(0, program.steps, 3):
                for other in range(program.steps):
                    found = least_rounds(program, one, other)
                    self.assertEqual(found, least.get((one, other)))
                    self.assertEqual(ahead(program, other, one), found)
                    if found is not None:
                        self.assertTrue(is_way(program, one, other, found, least_way(program, one, other)))
                        self.assertIs(surely(program, (one, 1), (other, 1 + found)), (one, found) != (other, 0))
                    if found is None or found > 1:
                        order = loose_order(program, (one, 1), (other, 2))
                        self.assertTrue(reference.is_lawful(program, order))
                        self.assertNotIn(one, order[:order.index(other)])
            self.assertIs(type(needless(program)), list)
            self.assertTrue(reference.is_lawful(program, ahead_order(program, program.steps - 1, 0, 0)))

    def test_values(self):
        for program in self.programs:
            every = makers(program)
            spans = reference.distance_dict(program)
            self.assertEqual(distances(program), tuple(tuple(spans[one, other] for other in every) for one in every))
            one, other = every[0], every[-1]
            self.assertEqual(distance(program, one, other), spans[one, other])
            for first, second in (((one, 1), (other, 2)), ((other, 3), (one, 2)), ((one, 1), (one, 2))):
                told = apart(program, first, second)
                self.assertEqual(told == "clash", reference.values_clash(spans, first, second))
                order = clash(program, first, second)
                self.assertEqual(order is not None, told == "clash")
                self.assertIs(is_clash(program, first, second, order), told == "clash")

    def test_followings_and_tables(self):
        for program in self.programs:
            least = least_cells(program)
            if least is None:
                self.assertTrue(is_lot(program, lot(program)))
                self.assertTrue(is_crowd(program, crowd_of(program, 50)))
                self.assertIsNotNone(stranger_clash(program, lambda step, number: (step + number) % 9))
                continue
            row = following(program)
            self.assertTrue(is_following(program, row))
            self.assertEqual(reference.sum_of(row), least)
            self.assertTrue(is_crowd(program, crowd(program)))
            self.assertEqual(len(crowd(program)), least)
            table = table_of(program, row)
            self.assertEqual(cells_of(program, table), list(range(least)))
            self.assertIsNone(table_clash(program, table))
            order = drawn_order(program, list(range(80)))
            self.assertIsNone(lost(program, table, order))
            self.assertEqual(len(run_cells(program, table, order)), least)
            self.assertEqual(len(cell_row(program, table, 0, 20)), 20)
            self.assertIn(cell(program, table, (makers(program)[-1], 9)), range(least))
            bad = ((0,),) * len(table)
            self.assertIs(is_table_clash(program, bad, table_clash(program, bad)), least > 1)

    def test_running(self):
        for program in self.programs:
            choices = 1
            for maker in makers(program):
                choices *= len(readers(program, maker))
            self.assertEqual(len(last_readers(program)), len(makers(program)))
            if choices > 4000:
                continue
            found = most_wanted(program)
            if found[0] == "endless":
                self.assertIsNone(least_cells(program))
                self.assertTrue(reference.is_lot_over(
                    makers(program), reference.choice_spans(program, found[1]), found[2]))
                self.assertEqual(len(wanted(program, order_with(program, 30))), 30)
                continue
            self.assertLessEqual(found[1], least_cells(program))
            self.assertEqual(len(reference.wanted_values(program, found[2])), found[1])
            self.assertIs(is_most_paper(program, found[1], {}), False)
            if found[1] < 200:
                self.assertGreaterEqual(len(wanted(program, order_with(program, found[1]))), found[1])
                self.assertIsNone(order_with(program, found[1] + 1))
            if None not in last_readers(program):
                self.assertEqual(found[1], least_cells(program))
                self.assertTrue(reference.is_lawful(program, all_wanted(program, crowd(program))))

    def test_kinds_and_paces(self):
        for program in self.programs:
            kinds = tuple(maker % 10 for maker in makers(program))
            self.assertEqual(set(kind_cells(program, kinds)), set(kinds))
            one = kind_cells(program, (4,) * len(kinds))
            self.assertEqual(one, {4: least_cells(program)})
            price = kind_price(program, (4,) * len(kinds), (2,) * 10)
            self.assertEqual(price, None if one[4] is None else 2 * one[4])
            times = tuple(1 + step % 99 for step in range(program.steps))
            part, ring = pace(program, times)
            found = reference.ring_part(program, times, ring)
            self.assertEqual(part, (found.numerator, found.denominator))
            self.assertIs(is_pace_paper(program, times, (0, 1), ((0, 1),) * program.steps), False)
            sure = tuple((0, 1) for _ in range(program.steps))
            self.assertIs(is_pace_paper(program, times, (10 ** 39, 1), sure), all(
                rounds > 0 for one, other, rounds in program.needs + program.befores))

    def test_cheapest(self):
        for program in self.programs:
            many = many_cheapest(program)
            if many == 0:
                self.assertIsNone(least_cells(program))
                continue
            rows = [cheapest(program, number) for number in sorted({0, many // 2, many - 1})]
            self.assertEqual(rows, sorted(set(rows)))
            for row in rows:
                self.assertTrue(is_following(program, row))
                self.assertEqual(reference.sum_of(row), least_cells(program))
            pairs = [set(zip(makers(program), [pair[0] for pair in row])) for row in rows]
            for pair in always(program):
                self.assertTrue(all(pair in row for row in pairs))
                self.assertEqual(least_with(program, *pair), least_cells(program))
                self.assertNotEqual(least_without(program, *pair), least_cells(program))
            for pair in never(program):
                self.assertTrue(all(pair not in row for row in pairs))
                self.assertNotEqual(least_with(program, *pair), least_cells(program))

    def test_joining_texts_and_benches(self):
        for program in self.programs:
            least = least_cells(program)
            self.assertEqual(least_cells(side_by_side(program, P)), None if least is None else least + 1)
            self.assertEqual(least_cells(unrolled(program, 2)), least)
            self.assertEqual(least_cells(moved(program, tuple(reversed(range(program.steps))))), least)
            self.assertEqual(joined(program, []), program)
            lines = program_text(program).split("\n")
            self.assertEqual(len(lines), 2 + len(program.needs) + len(program.befores))
            self.assertEqual(Bench(program).cells(), least)

    def test_reading(self):
        """What is read is constructed, and so held to the bounds."""
        for program in self.programs:
            text = program_text(program)
            if any(rounds >= 10 ** 9 for one, other, rounds in program.befores):
                with self.assertRaises(BadText):
                    read_program(text)
            elif is_beyond(program):
                with self.assertRaises(BadProgram):
                    read_program(text)
            else:
                self.assertEqual(read_program(text), program)

    def test_shorts(self):
        few = 0
        for program in self.programs:
            times = tuple(1 + step % 99 for step in range(program.steps))
            part = pace(program, times)[0]
            if len(makers(program)) > 4:
                for call in (lambda: least_short(program), lambda: least_paced(program, times, part)):
                    with self.assertRaises(TooMany) as caught:
                        call()
                    self.assertEqual(caught.exception.most, 4)
                continue
            few += 1
            number, thing = least_short(program)
            self.assertEqual(reference.sum_of(thing), number)
            self.assertTrue(is_following(waiting(program, thing), thing))
            paced, thing = least_paced(program, times, part)
            self.assertEqual(reference.sum_of(thing), paced)
            self.assertEqual(pace(waiting(program, thing), times)[0], part)
            self.assertTrue(number <= paced <= least_cells(program))
        self.assertGreater(few, 2)

    def test_helping(self):
        for program in self.programs:
            least = least_cells(program)
            if least is None or least > 200:
                many = 200
            else:
                self.assertEqual(helping(program, least, 3), ())
                self.assertIs(is_helping(program, least, 0, ()), True)
                many = least - 1
            found = helping(program, many, 1)
            self.assertIs(is_helping(program, many, 1, ()), False)
            if found is not None:
                self.assertIs(is_helping(program, many, 1, found), True)
                self.assertLessEqual(least_cells(joined(program, found)), many)

    def test_tight(self):
        for program in self.programs:
            found = tight(program)
            self.assertEqual(found, sorted(found))
            for word, number in (("need", 0), ("need", len(program.needs) - 1), ("before", len(program.befores) - 1)):
                row = program.needs if word == "need" else program.befores
                if number < 0:
                    continue
                rest = Spoken(program)
                if word == "need":
                    rest.needs = row[:number] + row[number + 1:]
                else:
                    rest.befores = row[:number] + row[number + 1:]
                self.assertEqual((word, number) in found, least_cells(rest) != least_cells(program))

    def test_counting(self):
        for program in self.programs:
            order = drawn_order(program, list(range(9)))
            counts = tuple(order.count(step) for step in range(program.steps))
            number = order_number(program, order)
            many = many_orders(program, counts)
            self.assertTrue(0 <= number < many)
            self.assertEqual(numbered_order(program, counts, number), order)
            last = numbered_order(program, counts, many - 1)
            self.assertTrue(reference.is_lawful(program, last) and last >= order)

    def test_codes_and_yards(self):
        source = random.Random(133)
        for program in self.programs:
            row = following(program)
            order = drawn_order(program, [source.randrange(60) for _ in range(90)])
            self.assertEqual(len(true_reads(program, order)), 90)
            table = table_of(program, row) if row is not None else ((0,),) * len(makers(program))
            try:
                code = code_of(program, table)
            except TooMany:
                self.assertGreater(lcm(*[len(row) for row in table]), 1000)
                continue
            self.assertEqual(len(code), program.steps)
            self.assertIs(is_code(program, table, code), True)
            broken = code_break(program, table)
            self.assertEqual(broken is None, row is not None)
            if broken is None:
                self.assertEqual(code_reads(program, table, order), true_reads(program, order))
            else:
                self.assertNotEqual(code_reads(program, table, broken)[-1], true_reads(program, broken)[-1])
            yard = Yard(program, 200)
            for step in order:
                yard.do(step)
            self.assertEqual((yard.so_far(), yard.can_do()), (order, can_be_done(program, order)))
            self.assertTrue(set(wanted(program, order)) <= set(yard.contents()))
            self.assertEqual(yard.copy().depth(), 90)
            yard.back()
            self.assertEqual(yard.so_far(), order[:-1])

    def test_pieces(self):
        for program in self.programs:
            found = pieces(program)
            self.assertEqual(sorted(step for piece in found for step in piece), list(range(program.steps)))
            place = {step: number for number, piece in enumerate(found) for step in piece}
            self.assertTrue(all(place[one] <= place[other] for one, other, rounds in program.needs + program.befores))
            loose, cells = loose_makers(program), piece_cells(program)
            self.assertEqual(len(loose) > 0, None in cells)
            self.assertEqual(least_cells(program), None if loose else sum(cells))

    def test_many_steps_one_behind_another(self):
        """Nothing is called within itself for each step, however many there are."""
        program = R
        for _ in range(7):
            program = side_by_side(program, program)
        program = joined(program, [(step, step + 1, 0) for step in range(255)] + [(255, 0, 1)])
        program = unrolled(program, 5)
        self.assertEqual(program.steps, 1280)
        self.assertEqual(least_rounds(program, 0, 1279), 0)
        with self.assertRaises(Stuck) as caught:
            joined(program, [(1279, 0, 0)])
        ring = caught.exception.ring
        self.assertTrue(reference.is_zero_ring(program.needs, program.befores + ((1279, 0, 0),), ring))
        self.assertEqual(last_readers(program)[0], (5, 0))
        self.assertEqual(pace(program, (1,) * 1280)[0], (1280, 1))


if __name__ == "__main__":
    unittest.main()
