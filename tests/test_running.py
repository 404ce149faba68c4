import copy
import random
import unittest

from aheadcells.errors import CellError, NoCrowd, NoNumber, TooMany
from aheadcells.followings import crowd, crowd_of, is_crowd, least_cells, lot
from aheadcells.programs import Program, makers
from aheadcells.running import all_wanted, is_most_paper, last_readers, most_wanted, order_with
from tests import reference
from tests.samples import (
    BARE, FAR, GREAT, LONE, LOOSE, NAMED, P, Q, R, T, bound_program, drawn_programs, nested, odd_things, spoiled,
)


def with_readers(numbers):
    """A program that is no lot, the makers of which have so many readers each."""
    needs = []
    for maker, many in enumerate(numbers):
        pairs = [(step, rounds) for rounds in range(1, 7) for step in range(len(numbers))]
        needs.extend((maker, step, rounds) for step, rounds in pairs[:many])
    ring = tuple((step, (step + 1) % len(numbers), 1) for step in range(len(numbers)))
    return Program(len(numbers), tuple(needs), ring)


# 4000 choices, and 4004 of them.
MANY = with_readers((5, 5, 5, 2, 2, 2, 2, 2))
OVER = with_readers((4, 7, 11, 13))
# As many, but with a lot: nothing leads back from the readers.
OVER_LOOSE = Program(12, tuple(
    (maker, 4 + place % 8, place // 8) for maker, many in enumerate((4, 7, 11, 13)) for place in range(many)
), ())


def paper_of(program):
    """A cheapest paper, by all followers for all choices; None if some choice has no following."""
    every = reference.maker_row(program)
    paper = {}
    for choice in reference.all_choices(program):
        rows = reference.rows_over(every, reference.choice_spans(program, choice))
        if not rows:
            return None
        paper[choice] = min(rows, key=reference.sum_of)
    return paper


def most_by_choices(program):
    """The greatest least sum over all choices; None if some choice has no following."""
    paper = paper_of(program)
    return None if paper is None else max(reference.sum_of(row) for row in paper.values())


def is_paper_by_words(program, number, thing):
    if type(thing) is not dict:
        return False
    every = reference.maker_row(program)
    choices = reference.all_choices(program)
    for key in thing:
        if type(key) is not tuple or not all(type(pair) is tuple for pair in key):
            return False
        if not all(type(part) is int for pair in key for part in pair) or key not in choices:
            return False
    return len(thing) == len(choices) and all(
        reference.is_row_over(every, reference.choice_spans(program, choice), thing[choice])
        and reference.sum_of(thing[choice]) <= number
        for choice in choices
    )


class MostWanted(unittest.TestCase):
    """Point 7.1: most_wanted."""

    def check(self, program):
        found = most_wanted(program)
        self.assertIs(type(found), tuple)
        most = most_by_choices(program)
        if most is None:
            self.check_endless(program, found)
            return None
        word, number, order = found
        self.assertEqual((word, number), ("most", most))
        self.assertIs(type(number), int)
        self.assertIs(type(order), tuple)
        self.assertTrue(reference.is_lawful(program, order))
        self.assertEqual(len(reference.wanted_values(program, order)), number)
        return number

    def check_endless(self, program, found):
        self.assertEqual((len(found), found[0]), (3, "endless"))
        self.assertIn(found[1], reference.all_choices(program))
        spans = reference.choice_spans(program, found[1])
        self.assertTrue(reference.is_lot_over(reference.maker_row(program), spans, found[2]))
        self.assertIsNotNone(lot(program))

    def test_ordinary(self):
        self.assertEqual([self.check(program) for program in NAMED], [1, None, 2, 2, 0, 3, 13, None])
        self.assertEqual(most_wanted(BARE), ("most", 0, ()))
        self.assertEqual(most_wanted(Q)[:2], ("endless", ((1, 0),)))

    def test_by_all_orders(self):
        reached = 0
        for program in drawn_programs(71, 150, 3, 4, 1) + drawn_programs(72, 60, 3, 5, 2):
            number = self.check(program)
            top = 5
            most = max(len(reference.wanted_in(program, counts)) for counts in reference.states(program, top))
            if number is None:
                # The rounds that are looked at end somewhere, but then so many are wanted.
                self.assertGreaterEqual(most, top - 2)
            else:
                self.assertLessEqual(most, number)
                reached += most == number
        self.assertGreater(reached, 80)

    def test_by_all_choices(self):
        source = random.Random(73)
        less = 0
        for _ in range(60):
            program = bound_program(source, source.randint(2, 4), 7, 3)
            number = self.check(program)
            self.assertLessEqual(number, least_cells(program))
            less += number < least_cells(program)
        self.assertGreater(less, 5)

    def test_endless_with_readers_in_reach(self):
        """The chosen reader leads to makers to which not all readers lead."""
        programs = [
            Program(4, ((0, 1, 0), (0, 2, 0), (1, 1, 1), (2, 3, 0)), ()),
            Program(4, ((0, 2, 0), (0, 1, 0), (1, 1, 1), (2, 3, 0)), ((3, 1, 0),)),
            Program(4, ((0, 1, 0), (1, 0, 1), (0, 2, 1), (2, 3, 1), (3, 2, 1)), ()),
            Program(3, ((0, 0, 1), (0, 1, 0), (1, 1, 1), (1, 2, 0), (2, 2, 2)), ()),
        ]
        for program in programs + [program for program in drawn_programs(74, 200, 5, 7, 3)]:
            if paper_of(program) is None:
                self.check(program)

    def test_too_many(self):
        self.assertEqual(most_wanted(MANY)[0], "most")
        number, order = most_wanted(MANY)[1:]
        self.assertTrue(reference.is_lawful(MANY, order))
        self.assertEqual(len(reference.wanted_values(MANY, order)), number)
        for program in (OVER, OVER_LOOSE):
            with self.assertRaises(TooMany) as caught:
                most_wanted(program)
            self.assertEqual(caught.exception.most, 4000)

    def test_great_programs(self):
        source = random.Random(75)
        self.assertEqual(most_wanted(GREAT)[:2], ("most", 252))
        for _ in range(8):
            program = bound_program(source, 12, 16, 6)
            try:
                word, number, order = most_wanted(program)
            except TooMany:
                continue
            self.assertEqual(word, "most")
            self.assertLessEqual(number, least_cells(program))
            self.assertTrue(reference.is_lawful(program, order))
            self.assertEqual(len(reference.wanted_values(program, order)), number)

    def test_equal_calls(self):
        for program in drawn_programs(76, 40):
            twin = Program(program.steps, program.needs, program.befores)
            self.assertEqual(most_wanted(program), most_wanted(twin))
            self.assertEqual(program, twin)


class OrderWith(unittest.TestCase):
    """Point 7.1: order_with."""

    def check(self, program, many):
        order = order_with(program, many)
        self.assertIs(type(order), tuple)
        self.assertTrue(reference.is_lawful(program, order))
        self.assertGreaterEqual(len(reference.wanted_values(program, order)), many)

    def test_all_numbers(self):
        source = random.Random(77)
        drawn = [bound_program(source, 3, 6, 2) for _ in range(25)]
        for program in list(NAMED) + drawn + drawn_programs(78, 40):
            most = most_by_choices(program)
            if most is None:
                for many in (0, 1, 2, 9, 200):
                    self.check(program, many)
                continue
            for many in range(most + 1):
                self.check(program, many)
            for many in (most + 1, most + 2, 200):
                self.assertIsNone(order_with(program, many))

    def test_great_numbers(self):
        self.check(GREAT, 200)
        self.check(GREAT, 120)
        self.check(MANY, most_wanted(MANY)[1])
        self.assertIsNone(order_with(MANY, most_wanted(MANY)[1] + 1))

    def test_no_number(self):
        for thing in odd_things() + [-1, 201, 10 ** 39]:
            for program in (P, Q, T, BARE, OVER):
                with self.assertRaises(NoNumber):
                    order_with(program, thing)

    def test_too_many(self):
        for program in (OVER, OVER_LOOSE):
            for many in (0, 1, 200):
                with self.assertRaises(TooMany) as caught:
                    order_with(program, many)
                self.assertEqual(caught.exception.most, 4000)


class MostPaper(unittest.TestCase):
    """Point 7.1: is_most_paper."""

    def check(self, program, number, thing):
        found = is_most_paper(program, number, thing)
        self.assertIs(found, is_paper_by_words(program, number, thing))
        return found

    def test_sixth_fact(self):
        papers = 0
        for program in list(NAMED) + drawn_programs(79, 80, 3, 5, 2):
            paper = paper_of(program)
            if paper is None:
                self.assertEqual(most_wanted(program)[0], "endless")
                continue
            papers += 1
            number = most_wanted(program)[1]
            self.assertTrue(self.check(program, number, paper))
            self.assertTrue(self.check(program, number + 7, paper))
            self.assertTrue(self.check(program, 10 ** 39, paper))
            self.assertFalse(self.check(program, number - 1, paper))
            self.assertFalse(self.check(program, -1, paper))
        self.assertGreater(papers, 20)

    def changed(self, paper):
        """Papers that are as this one but in one place."""
        found = [{}, list(paper), list(paper.items()), tuple(paper.values()), {**paper, (): ()}, {**paper, None: None}]
        for choice, row in paper.items():
            rest = {key: value for key, value in paper.items() if key != choice}
            found.append(rest)
            found.extend({**rest, choice: other} for other in spoiled(row))
            found.append({**paper, choice + ((0, 0),): row})
            for key in spoiled(choice):
                try:
                    found.extend(({**rest, key: row}, {**paper, key: row}))
                except TypeError:
                    # What holds a list can be no key.
                    continue
        return found

    def test_changed_papers(self):
        judged = {True: 0, False: 0}
        flags = Program(2, ((0, 1, 1), (0, 1, 0), (1, 0, 1)), ())
        for program in (P, R, T, BARE, LONE, flags):
            paper = paper_of(program)
            number = max(reference.sum_of(row) for row in paper.values())
            for thing in self.changed(paper):
                for limit in (number, number + 1):
                    judged[self.check(program, limit, thing)] += 1
        self.assertGreater(judged[True], 20)
        self.assertGreater(judged[False], 500)

    def test_flags_lists_and_sums(self):
        paper = paper_of(T)
        choice = list(paper)[0]
        self.assertIs(is_most_paper(T, 2, paper), True)
        row = paper[choice]
        for other in (
            list(row), tuple(list(pair) for pair in row), row[:-1], row + row[:1],
            tuple((follower, rounds + (follower == row[0][0])) for follower, rounds in row),
            tuple((follower, rounds == 1) for follower, rounds in row),
            tuple((False if follower == 0 else follower, rounds) for follower, rounds in row),
        ):
            self.assertIs(is_most_paper(T, 2, {**paper, choice: other}), False)
        flag = tuple((True if reader == 1 else reader, rounds) for reader, rounds in choice)
        self.assertEqual(flag, choice)
        rest = {key: value for key, value in paper.items() if key != choice}
        self.assertIs(is_most_paper(T, 2, {**rest, flag: row}), False)
        self.assertIs(is_most_paper(T, 2, {choice: row, **rest}), True)

    def test_without_makers(self):
        self.assertIs(is_most_paper(BARE, 0, {(): ()}), True)
        self.assertIs(is_most_paper(BARE, -1, {(): ()}), False)
        for thing in ({}, {(): []}, {None: ()}, {(): ((0, 1),)}, {(): (), None: ()}, ()):
            self.assertIs(is_most_paper(BARE, 0, thing), False)

    def test_no_paper_for_a_lot(self):
        self.assertIs(is_most_paper(Q, 9, {((1, 0),): ((0, 9),)}), False)
        self.assertIs(is_most_paper(Q, 9, {}), False)

    def test_odd_things(self):
        for thing in odd_things():
            for program in (P, Q, T):
                self.assertIs(is_most_paper(program, 9, thing), False)
        self.assertIs(is_most_paper(P, 9, {key: None for key in range(9999)}), False)
        choice = ((1, 0), (2, 0), (0, 1))
        for thing in odd_things() + [nested(tuple, 38)]:
            self.assertIs(is_most_paper(P, 9, {choice: thing}), False)
            try:
                self.assertIs(is_most_paper(P, 9, {thing: ((0, 1), (1, 1), (2, 1))}), False)
            except TypeError:
                # What holds a list can be no key.
                continue

    def test_arguments_stay(self):
        paper = paper_of(T)
        before = copy.deepcopy(paper)
        is_most_paper(T, 2, paper)
        self.assertEqual(paper, before)

    def test_errors(self):
        for thing in odd_things():
            if type(thing) is int:
                continue
            for program in (P, Q, BARE, OVER):
                with self.assertRaises(NoNumber):
                    is_most_paper(program, thing, {})
        for thing in odd_things() + [{}]:
            for program in (OVER, OVER_LOOSE):
                with self.assertRaises(TooMany) as caught:
                    is_most_paper(program, 5, thing)
                self.assertEqual(caught.exception.most, 4000)

    def test_four_thousand_choices(self):
        row = tuple((maker, 99) for maker in reference.maker_row(MANY))
        paper = {choice: row for choice in reference.all_choices(MANY)}
        self.assertEqual(len(paper), 4000)
        self.assertIs(is_most_paper(MANY, 8 * 99, paper), True)
        self.assertIs(is_most_paper(MANY, 8 * 99 - 1, paper), False)
        last = list(paper)[-1]
        self.assertIs(is_most_paper(MANY, 8 * 99, {**paper, last: row[::-1] * 2}), False)
        del paper[last]
        self.assertIs(is_most_paper(MANY, 8 * 99, paper), False)


class LastReaders(unittest.TestCase):
    """Point 7.2: last readers, the seventh fact, and all_wanted."""

    def last_by_words(self, program, maker):
        least = reference.least_sums(program)
        pairs = reference.reader_pairs(program, maker)
        for reader, rounds in pairs:
            others = [pair for pair in pairs if pair != (reader, rounds)]
            if all((other, reader) in least and rounds - ahead >= least[other, reader] for other, ahead in others):
                return (reader, rounds)
        return None

    def test_ordinary(self):
        self.assertEqual(last_readers(T), (None, (5, 0), (5, 0)))
        self.assertEqual(last_readers(P), ((1, 0), (2, 0), (0, 1)))
        self.assertEqual(last_readers(Q), ((1, 0),))
        self.assertEqual(last_readers(BARE), ())
        self.assertEqual(last_readers(LONE), ((0, 3),))
        self.assertEqual(last_readers(Program(3, ((0, 1, 0), (0, 2, 0)), ((2, 1, 0),))), ((1, 0),))
        self.assertEqual(last_readers(Program(3, ((0, 1, 0), (0, 2, 0)), ((2, 1, 1),))), (None,))
        self.assertEqual(last_readers(Program(3, ((0, 1, 1), (0, 2, 0)), ((2, 1, 1),))), ((1, 1),))

    def test_drawn(self):
        found = {True: 0, False: 0}
        for program in drawn_programs(710, 150, 4, 7, 2):
            told = last_readers(program)
            self.assertEqual(told, tuple(self.last_by_words(program, maker) for maker in makers(program)))
            for last in told:
                found[last is None] += 1
        self.assertGreater(min(found.values()), 30)

    def test_by_all_orders(self):
        for program in drawn_programs(711, 60, 3, 4, 1):
            every = reference.states(program, 5)
            for maker, last in zip(makers(program), last_readers(program)):
                pairs = reference.reader_pairs(program, maker)
                # Behind the last reader's doing of the value of round 1 each other one was done.
                sure = [
                    pair for pair in pairs
                    if all(
                        counts[other] >= 1 + ahead
                        for counts in every if counts[pair[0]] >= 1 + pair[1]
                        for other, ahead in pairs
                    )
                ]
                self.assertEqual([] if last is None else [last], sure)

    def test_seventh_fact(self):
        source = random.Random(712)
        seen = 0
        for program in drawn_programs(713, 120, 4, 5, 2) + [bound_program(source, 4, 5, 2) for _ in range(40)]:
            most = most_wanted(program)
            least = least_cells(program)
            if most[0] == "endless":
                self.assertIsNone(least)
                continue
            self.assertLessEqual(most[1], least)
            if None not in last_readers(program):
                seen += 1
                self.assertEqual(most[1], least)
                self.check_wanted(program, crowd(program))
        self.assertGreater(seen, 40)

    def check_wanted(self, program, values):
        order = all_wanted(program, values)
        self.assertIs(type(order), tuple)
        self.assertTrue(reference.is_lawful(program, order))
        self.assertLessEqual(set(values), set(reference.wanted_values(program, order)))

    def test_all_wanted(self):
        self.assertIsNone(all_wanted(T, crowd(T)))
        self.check_wanted(T, [(3, 1), (0, 1)])
        self.check_wanted(R, [(0, 8), (0, 7)])
        self.check_wanted(Q, crowd_of(Q, 200))
        for program in NAMED:
            self.check_wanted(program, [])
        self.assertEqual(all_wanted(BARE, []), ())

    def test_all_wanted_by_all_orders(self):
        source = random.Random(714)
        found = {True: 0, False: 0}
        for program in drawn_programs(715, 120, 4, 6, 1) + [T] * 20:
            every = makers(program)
            top = 3 if program.steps < 5 else 2
            if not every:
                continue
            states = reference.states(program, top + 3 if program.steps < 4 else top)
            sets = [reference.wanted_in(program, counts) for counts in states]
            for _ in range(15):
                many = source.randint(1, 4)
                thing = [(source.choice(every), source.randint(1, top)) for _ in range(many)]
                if not is_crowd(program, thing):
                    continue
                before = list(thing)
                order = all_wanted(program, thing)
                self.assertEqual(thing, before)
                self.assertEqual(order is not None, any(set(thing) <= values for values in sets))
                found[order is None] += 1
                if order is not None:
                    self.check_wanted(program, thing)
        self.assertGreater(found[False], 50)
        self.assertGreater(found[True], 5)

    def test_no_crowd(self):
        wrong = [
            ((0, 1),), [(0, 1), (0, 1)], [(0, 1), (0, 3)], [(1, 1)], [(0, 0)], [(0, True)], [(False, 1)], [[0, 1]],
            [(0, 1, 1)], ((0, 1), (0, 2)), [(0, 1), None],
        ]
        for thing in wrong + odd_things():
            if type(thing) is list and thing in ([], [(0, 1)]):
                continue
            with self.assertRaises(NoCrowd):
                all_wanted(R, thing)
        with self.assertRaises(CellError):
            all_wanted(R, None)


if __name__ == "__main__":
    unittest.main()
