import random
import unittest
from fractions import Fraction
from itertools import combinations

from aheadcells.codes import code_break, code_reads, true_reads
from aheadcells.errors import Full, NoNumber
from aheadcells.followings import crowd, crowd_of, following, is_crowd, is_following, is_lot, least_cells, lot
from aheadcells.orders import drawn_order, wanted
from aheadcells.paces import is_pace_paper, pace
from aheadcells.pieces import loose_makers, piece_cells
from aheadcells.programs import makers, readers
from aheadcells.running import all_wanted, is_most_paper, last_readers, most_wanted, order_with
from aheadcells.shorts import least_paced, least_short
from aheadcells.tables import lost, table_clash, table_of
from aheadcells.values import apart, clash, distance
from aheadcells.ways import least_rounds, surely
from aheadcells.yards import Yard
from tests import reference
from tests.samples import FAR, LONE, LOOSE, NAMED, P, Q, R, T, drawn_programs

TOP = 4


def drawn_tables(source, program):
    """Tables of which most are wrong, and those of a following, where there is one."""
    tables = [
        tuple(tuple(source.randrange(4) for _ in range(source.randint(1, 4))) for _ in makers(program))
        for _ in range(3)
    ]
    row = following(program)
    if row is not None:
        tables.append(table_of(program, row))
    return tables


class Facts(unittest.TestCase):
    """The twelve facts of the document, on drawn programs: small ones, whose states are all gone through."""

    def setUp(self):
        self.small = drawn_programs(281, 60, 4, 5, 2) + [P, Q, R, LONE]
        self.programs = drawn_programs(282, 120, 5, 6, 3) + list(NAMED)

    def test_first(self):
        for program in self.small:
            states = reference.states(program, TOP)
            for one in range(program.steps):
                for other in range(program.steps):
                    least = least_rounds(program, one, other)
                    for i in range(1, TOP + 1):
                        for j in range(1, TOP + 1):
                            ahead = all(counts[one] >= i for counts in states if counts[other] >= j)
                            self.assertEqual(ahead, least is not None and j - i >= least)
                            self.assertEqual(surely(program, (one, i), (other, j)), ahead and (one, i) != (other, j))

    def test_second_and_third(self):
        for program in self.small:
            states = reference.states(program, TOP)
            clashes = reference.clashing(program, TOP)
            values = [(maker, number) for maker in makers(program) for number in range(1, TOP - 1)]
            for first in values:
                for second in values:
                    if first == second:
                        continue
                    behind = [self.is_read(program, states, *pair) for pair in ((first, second), (second, first))]
                    least = distance(program, first[0], second[0])
                    self.assertEqual(behind[0], least is not None and second[1] - first[1] >= least)
                    told = apart(program, first, second)
                    self.assertEqual([told == "first", told == "second"], behind)
                    self.assertEqual(told == "clash", (first, second) in clashes)
                    self.assertEqual(clash(program, first, second) is not None, told == "clash")

    def is_read(self, program, states, first, second):
        """Whether all readings of the first value are done wherever the second one is made."""
        return all(
            counts[reader] >= first[1] + rounds
            for counts in states if counts[second[0]] >= second[1] for reader, rounds in readers(program, first[0])
        )

    def test_fourth(self):
        lots = 0
        for program in self.programs:
            least = least_cells(program)
            rows = reference.followings_of(program)
            self.assertEqual(least, min([reference.sum_of(row) for row in rows], default=None))
            self.assertEqual((lot(program) is None, following(program) is None), (least is not None, least is None))
            if least is None:
                lots += 1
                self.assertTrue(is_lot(program, lot(program)))
                for many in (0, 1, 7, 60):
                    self.check_crowd(program, crowd_of(program, many), many)
                continue
            self.assertTrue(is_following(program, following(program)))
            for many in range(least + 1):
                self.check_crowd(program, crowd_of(program, many), many)
            self.check_crowd(program, crowd(program), least)
            with self.assertRaises(NoNumber):
                crowd_of(program, least + 1)
        self.assertGreater(lots, 30)
        self.assertGreater(len(self.programs) - lots, 30)

    def check_crowd(self, program, found, many):
        self.assertEqual(len(set(found)), many)
        self.assertTrue(is_crowd(program, found))
        spans = reference.distance_dict(program)
        self.assertTrue(all(reference.values_clash(spans, *pair) for pair in combinations(found[:20], 2)))

    def test_no_crowd_has_more_than_a_following(self):
        """All sets of values of the first rounds of small programs, one value more than the least sum."""
        for program in drawn_programs(283, 60, 3, 4, 1):
            least = least_cells(program)
            if least is not None and 0 < least <= 3:
                clashes = reference.clashing(program, TOP)
                values = [(maker, number) for maker in makers(program) for number in range(1, TOP)]
                for row in combinations(values, least + 1):
                    self.assertFalse(all(pair in clashes for pair in combinations(row, 2)))
                    self.assertFalse(is_crowd(program, list(row)))

    def test_fifth(self):
        source = random.Random(284)
        fewer = 0
        for program in self.programs:
            least = least_cells(program)
            for table in drawn_tables(source, program):
                cells = len({cell for row in table for cell in row})
                if least is None or cells < least:
                    fewer += 1
                    self.assertIsNotNone(table_clash(program, table))
        self.assertGreater(fewer, 100)

    def test_sixth(self):
        for program in self.programs:
            choices = reference.all_choices(program)
            every = reference.maker_row(program)
            found = most_wanted(program)
            self.assertEqual(found[0] == "endless", lot(program) is not None)
            if found[0] == "endless":
                spans = reference.choice_spans(program, found[1])
                self.assertTrue(reference.is_lot_over(every, spans, found[2]))
                self.assertGreaterEqual(len(reference.wanted_values(program, order_with(program, 20))), 20)
                continue
            number = found[1]
            paper = {
                choice: min(reference.rows_over(every, reference.choice_spans(program, choice)), key=reference.sum_of)
                for choice in choices
            }
            self.assertEqual(len(reference.wanted_values(program, found[2])), number)
            self.assertIs(is_most_paper(program, number, paper), True)
            self.assertIs(is_most_paper(program, number - 1, paper), False)
            self.assertIsNone(order_with(program, number + 1))

    def test_most_wanted_in_small_programs(self):
        for program in self.small:
            found = most_wanted(program)
            if found[0] == "most":
                seen = max(len(reference.wanted_in(program, counts)) for counts in reference.states(program, TOP))
                self.assertLessEqual(seen, found[1])
                if len(found[2]) == 0 or max(found[2].count(step) for step in found[2]) <= TOP:
                    self.assertEqual(seen, found[1])

    def test_seventh(self):
        last = 0
        for program in self.programs:
            found = most_wanted(program)
            least = least_cells(program)
            if found[0] == "most":
                self.assertLessEqual(found[1], least)
            if None in last_readers(program):
                continue
            last += 1
            self.assertEqual(found[:2] if found[0] == "most" else found[0], "endless" if least is None else ("most", least))
            many = crowd_of(program, 9) if least is None else crowd(program)
            for thing in (many, many[::2], many[1:], many[:1], []):
                order = all_wanted(program, thing)
                self.assertTrue(reference.is_lawful(program, order))
                self.assertTrue(set(thing) <= set(reference.wanted_values(program, order)))
        self.assertGreater(last, 40)

    def test_eighth(self):
        source = random.Random(285)
        for program in self.programs:
            times = tuple(source.randint(1, 99) for _ in range(program.steps))
            most = max(reference.ring_part(program, times, ring) for ring in reference.simple_rings(program))
            self.assertEqual(Fraction(*pace(program, times)[0]), most)
            for part in (most, most + Fraction(1, 3), most - Fraction(1, 3)):
                late = [Fraction(0)] * program.steps
                for _ in range(program.steps):
                    for one, other, rounds in reference.told_links(program).values():
                        late[other] = max(late[other], late[one] + times[one] - part * rounds)
                paper = tuple(fraction.as_integer_ratio() for fraction in late)
                self.assertIs(is_pace_paper(program, times, part.as_integer_ratio(), paper), part >= most)

    def test_ninth(self):
        source = random.Random(286)
        for program in self.programs:
            for table in drawn_tables(source, program):
                order = code_break(program, table)
                self.assertEqual(order is None, table_clash(program, table) is None)
                if order is not None:
                    self.assertNotEqual(true_reads(program, order)[-1], code_reads(program, table, order)[-1])
                    continue
                for _ in range(3):
                    order = drawn_order(program, [source.randrange(60) for _ in range(50)])
                    self.assertEqual(true_reads(program, order), code_reads(program, table, order))
                    self.assertIsNone(lost(program, table, order))

    def test_tenth(self):
        source = random.Random(287)
        for program in self.programs:
            found = most_wanted(program)
            for _ in range(3):
                order = drawn_order(program, [source.randrange(60) for _ in range(40)])
                most = max(len(wanted(program, order[:place])) for place in range(len(order) + 1))
                for many in (most, found[1] if found[0] == "most" else most):
                    yard = Yard(program, many)
                    for step in order:
                        yard.do(step)
                if most > 0:
                    yard = Yard(program, most - 1)
                    with self.assertRaises(Full):
                        for step in order:
                            yard.do(step)

    def test_eleventh(self):
        source = random.Random(288)
        for program in self.programs:
            if len(makers(program)) > 4:
                continue
            times = tuple(source.randint(1, 9) for _ in range(program.steps))
            part = pace(program, times)[0]
            short, paced, least = least_short(program)[0], least_paced(program, times, part)[0], least_cells(program)
            self.assertLessEqual(short, paced)
            self.assertTrue(least is None or paced <= least)

    def test_twelfth(self):
        for program in self.programs + [FAR, LOOSE, T]:
            loose = loose_makers(program)
            self.assertEqual(lot(program) is not None, len(loose) > 0)
            if not loose:
                self.assertEqual(least_cells(program), sum(piece_cells(program)))


if __name__ == "__main__":
    unittest.main()
