import random
import unittest
from fractions import Fraction
from math import gcd

from aheadcells.errors import NoFraction, NoShort, NoTimes, Stuck
from aheadcells.followings import is_following, least_cells
from aheadcells.paces import is_pace_paper, pace, waiting
from aheadcells.programs import Program, makers
from tests import reference
from tests.samples import BARE, FAR, GREAT, LONE, NAMED, P, Q, R, T, bound_program, drawn_programs, odd_things, spoiled


def is_short_by_words(program, thing):
    every = reference.maker_row(program)
    most = {maker: max(rounds for reader, rounds in reference.reader_pairs(program, maker)) for maker in every}
    return reference.is_row_over(every, {(one, other): most[one] for one in every for other in every}, thing)


def befores_by_words(program, thing):
    """The befores of the program that waits, in their order."""
    befores = list(program.befores)
    for maker, (follower, rounds) in zip(reference.maker_row(program), thing):
        for reader, ahead in reference.reader_pairs(program, maker):
            if reader != follower and (reader, follower, rounds - ahead) not in befores:
                befores.append((reader, follower, rounds - ahead))
    return tuple(befores)


def drawn_short(source, program):
    every = list(makers(program))
    followers = list(every)
    source.shuffle(followers)
    most = [max(rounds for reader, rounds in reference.reader_pairs(program, maker)) for maker in every]
    return tuple((follower, least + source.choice((0, 0, 1, 2))) for follower, least in zip(followers, most))


class Waiting(unittest.TestCase):
    """Point 8.2."""

    def check(self, program, thing):
        befores = befores_by_words(program, thing)
        try:
            made = waiting(program, thing)
        except Stuck as error:
            self.assertTrue(reference.is_zero_ring(program.needs, befores, error.ring))
            return None
        self.assertIs(type(made), Program)
        self.assertEqual((made.steps, made.needs, made.befores), (program.steps, program.needs, befores))
        self.assertIs(type(made.befores), tuple)
        self.assertIs(is_following(made, thing), True)
        return made

    def test_ordinary(self):
        self.assertEqual(self.check(Q, ((0, 1),)), Program(2, ((0, 1, 0),), ((1, 0, 1),)))
        self.assertEqual(self.check(P, ((1, 0), (2, 0), (0, 1))), P)
        self.assertEqual(self.check(BARE, ()), BARE)
        self.assertEqual(least_cells(waiting(Q, ((0, 7),))), 7)
        self.assertEqual(least_cells(waiting(T, ((3, 0), (0, 1), (4, 1)))), 2)

    def test_order_of_befores(self):
        """For each maker, and for each of its readers ascending, whatever the order of the needs."""
        program = Program(4, ((2, 3, 0), (0, 2, 1), (0, 1, 2), (0, 1, 0), (2, 1, 1)), ((3, 3, 2),))
        made = self.check(program, ((0, 3), (2, 2)))
        self.assertEqual(made.befores, ((3, 3, 2), (1, 0, 3), (1, 0, 1), (2, 0, 2), (1, 2, 1), (3, 2, 2)))

    def test_none_twice(self):
        program = Program(3, ((0, 2, 0), (1, 2, 0), (0, 2, 1)), ((2, 1, 1), (2, 0, 4)))
        made = self.check(program, ((1, 2), (0, 4)))
        self.assertEqual(made.befores, ((2, 1, 1), (2, 0, 4), (2, 1, 2)))
        # A need does not stand in the place of a before.
        made = self.check(Program(2, ((0, 1, 0), (1, 0, 1)), ()), ((0, 1), (1, 1)))
        self.assertEqual(made.befores, ((1, 0, 1), (0, 1, 0)))

    def test_none_for_the_follower_itself(self):
        program = Program(3, ((0, 1, 0), (0, 1, 1), (0, 2, 0), (1, 0, 1)), ())
        made = self.check(program, ((1, 1), (0, 1)))
        self.assertEqual(made.befores, ((2, 1, 1),))
        self.assertEqual(self.check(LONE, ((0, 3),)), LONE)

    def test_stuck(self):
        with self.assertRaises(Stuck) as caught:
            waiting(Q, ((0, 0),))
        self.assertEqual(sorted(caught.exception.ring), [("before", 0), ("need", 0)])
        with self.assertRaises(Stuck) as caught:
            waiting(T, ((3, 0), (4, 0), (0, 1)))
        self.assertTrue(reference.is_zero_ring(
            T.needs, befores_by_words(T, ((3, 0), (4, 0), (0, 1))), caught.exception.ring))

    def test_drawn(self):
        source = random.Random(83)
        found = {True: 0, False: 0}
        for program in drawn_programs(84, 200, 5, 6, 2) + list(NAMED):
            for _ in range(3):
                found[self.check(program, drawn_short(source, program)) is None] += 1
        self.assertGreater(min(found.values()), 80)

    def test_of_what_waits(self):
        """What was returned is a program, also beyond the bounds, and can wait again."""
        source = random.Random(85)
        beyond = 0
        for _ in range(10):
            program = bound_program(source, 12, 30, 6)
            made = program
            for _ in range(8):
                made = self.check(made, drawn_short(source, made)) or made
            if made != program:
                beyond += len(made.befores) > 40
                self.assertIsNotNone(least_cells(made))
        self.assertGreater(beyond, 3)

    def test_great_rounds(self):
        great = 10 ** 39
        made = self.check(R, ((0, great),))
        self.assertEqual(made.befores, ((1, 0, 2), (1, 0, great)))
        self.assertEqual(least_cells(self.check(Q, ((0, great),))), great)

    def test_the_program_stays(self):
        before = (T.steps, T.needs, T.befores)
        waiting(T, ((3, 1), (0, 1), (4, 1)))
        self.assertEqual((T.steps, T.needs, T.befores), before)

    def test_no_short_following(self):
        for program, thing in (
            (LONE, ((0, 2),)), (P, ((1, 0), (2, 0), (0, 0))), (P, ((1, 0), (1, 0), (0, 1))), (P, ((1, 0), (2, 0))),
            (P, [(1, 0), (2, 0), (0, 1)]), (P, ([1, 0], (2, 0), (0, 1))), (P, ((True, 0), (2, 0), (0, 1))),
            (P, ((1, False), (2, 0), (0, 1))), (P, ((1, 0), (2, 0), (0, True))), (R, ((1, 0),)), (R, ((0, -1),)),
            (R, ((0, 1), (0, 1))), (BARE, ((0, 0),)), (BARE, []), (T, ((3, 0), (0, 0), (1, 0))),
        ):
            with self.assertRaises(NoShort):
                waiting(program, thing)
        for thing in odd_things():
            for program in (P, Q, T):
                with self.assertRaises(NoShort):
                    waiting(program, thing)

    def test_judged_as_the_words_say(self):
        found = {True: 0, False: 0}
        for program, thing in ((P, ((1, 0), (2, 0), (0, 1))), (T, ((3, 1), (0, 0), (4, 1))), (LONE, ((0, 3),))):
            for other in spoiled(thing):
                right = is_short_by_words(program, other)
                found[right] += 1
                if right:
                    self.check(program, other)
                else:
                    with self.assertRaises(NoShort):
                        waiting(program, other)
        self.assertGreater(min(found.values()), 5)


class Pace(unittest.TestCase):
    """Point 8.3: the pace."""

    def check(self, program, times):
        found = pace(program, times)
        self.assertIs(type(found), tuple)
        (top, bottom), ring = found
        self.assertIs(type(found[0]), tuple)
        self.assertTrue(type(top) is int and type(bottom) is int and bottom >= 1)
        self.assertEqual(gcd(top, bottom), 1)
        self.assertEqual(reference.ring_part(program, times, ring), Fraction(top, bottom))
        return Fraction(top, bottom)

    def test_ordinary(self):
        self.assertEqual(pace(P, (1, 2, 3))[0], (6, 1))
        self.assertEqual(self.check(P, (1, 2, 3)), 6)
        # A step in turn, where nothing leads round or where what does is over more rounds.
        self.assertEqual(pace(Q, (4, 9)), ((9, 1), (("turn", 1),)))
        self.assertEqual(pace(BARE, (99, 1))[0], (99, 1))
        self.assertEqual(pace(R, (1, 2))[0], (2, 1))
        self.assertEqual(pace(R, (5, 4))[0], (5, 1))
        program = Program(3, ((0, 1, 0), (1, 2, 1)), ((2, 0, 1),))
        self.assertEqual(pace(program, (1, 2, 2))[0], (5, 2))
        self.assertEqual(pace(program, (1, 1, 4))[0], (4, 1))

    def test_links_to_itself(self):
        self.assertEqual(pace(LONE, (7,))[0], (7, 1))
        self.assertEqual(pace(Program(1, ((0, 0, 2),), ()), (7,)), ((7, 1), (("turn", 0),)))

    def test_against_all_rings(self):
        source = random.Random(86)
        parts = 0
        bound = [bound_program(source, source.randint(3, 6), source.randint(0, 2), 1) for _ in range(120)]
        for program in drawn_programs(87, 120, 5, 7, 3) + bound:
            times = tuple(source.choice(((1, 2, 3), (2, 3, 50, 99))[program in bound]) for _ in range(program.steps))
            most = max(reference.ring_part(program, times, ring) for ring in reference.simple_rings(program))
            self.assertEqual(self.check(program, times), most)
            parts += most.denominator > 1
        self.assertGreater(parts, 10)

    def test_great_programs(self):
        source = random.Random(88)
        for program in [GREAT] + [bound_program(source, 12, 40, 6) for _ in range(10)]:
            self.check(program, tuple(source.randint(1, 99) for _ in range(program.steps)))

    def test_no_times(self):
        wrong = [(1, 1), (1, 1, 1, 1), [1, 1, 1], (1, 0, 1), (1, 100, 1), (1, -1, 1), (1, True, 1), (1, None, 1)]
        for thing in odd_things() + wrong + [(1, 1, 10 ** 39), ("1", 1, 1)]:
            with self.assertRaises(NoTimes):
                pace(P, thing)
            with self.assertRaises(NoTimes):
                is_pace_paper(P, thing, (6, 1), None)
            with self.assertRaises(NoTimes):
                is_pace_paper(P, thing, None, None)
        self.assertEqual(pace(P, (99, 99, 99))[0], (297, 1))

    def test_equal_calls(self):
        for program in drawn_programs(89, 40):
            twin = Program(program.steps, program.needs, program.befores)
            self.assertEqual(pace(program, (3,) * program.steps), pace(twin, (3,) * program.steps))


def is_fraction_by_words(thing):
    return (
        type(thing) is tuple and len(thing) == 2 and type(thing[0]) is int and type(thing[1]) is int and thing[1] >= 1
        and gcd(*thing) == 1
    )


def is_paper_by_words(program, times, part, thing):
    if type(thing) is not tuple or len(thing) != program.steps or not all(map(is_fraction_by_words, thing)):
        return False
    late = [Fraction(*one) for one in thing]
    return all(
        late[other] >= late[one] + times[one] - Fraction(*part) * rounds
        for one, other, rounds in reference.told_links(program).values()
    )


def paper_at(program, times, part):
    """A paper at a part that is not below the pace: the greatest gain of a way to each step."""
    late = [Fraction(0)] * program.steps
    for _ in range(program.steps):
        for one, other, rounds in reference.told_links(program).values():
            late[other] = max(late[other], late[one] + times[one] - part * rounds)
    return tuple((one.numerator, one.denominator) for one in late)


class PacePaper(unittest.TestCase):
    """Point 8.3: is_pace_paper, and the eighth fact."""

    def check(self, program, times, part, thing):
        found = is_pace_paper(program, times, part, thing)
        self.assertIs(found, is_paper_by_words(program, times, part, thing))
        return found

    def test_eighth_fact(self):
        source = random.Random(810)
        for program in drawn_programs(811, 80, 4, 6, 3) + [bound_program(source, 4, 5, 2) for _ in range(40)]:
            times = tuple(source.randint(1, 99) for _ in range(program.steps))
            part = Fraction(*pace(program, times)[0])
            self.assertTrue(self.check(program, times, pace(program, times)[0], paper_at(program, times, part)))
            for more in (Fraction(1, 7), Fraction(1), Fraction(10 ** 39)):
                above = (part + more).as_integer_ratio()
                self.assertTrue(self.check(program, times, above, paper_at(program, times, part + more)))
                self.assertTrue(self.check(program, times, above, paper_at(program, times, part)))
                below = (part - more).as_integer_ratio()
                self.assertFalse(self.check(program, times, below, paper_at(program, times, part)))
                self.assertFalse(self.check(program, times, below, paper_at(program, times, part - more)))
            just_below = (part - Fraction(1, 10 ** 30)).as_integer_ratio()
            self.assertFalse(self.check(program, times, just_below, paper_at(program, times, part)))

    def test_changed_papers(self):
        found = {True: 0, False: 0}
        program = Program(3, ((0, 1, 0), (1, 2, 1)), ((2, 0, 1),))
        for times, part in (((1, 2, 2), (5, 2)), ((1, 2, 2), (3, 1)), ((4, 1, 1), (4, 1))):
            paper = paper_at(program, times, Fraction(*part))
            self.assertTrue(self.check(program, times, part, paper))
            for thing in spoiled(paper):
                found[self.check(program, times, part, thing)] += 1
            # The whole paper moved by the same is one still.
            moved = tuple((Fraction(*one) - Fraction(17, 3)).as_integer_ratio() for one in paper)
            self.assertTrue(self.check(program, times, part, moved))
        self.assertGreater(found[True], 5)
        self.assertGreater(found[False], 100)

    def test_forms(self):
        self.assertIs(is_pace_paper(Q, (1, 1), (1, 1), ((0, 1), (1, 1))), True)
        self.assertIs(is_pace_paper(Q, (1, 1), (1, 1), ((-1, 2), (1, 2))), True)
        for thing in (
            ((0, 1), (2, 2)), ((0, 2), (1, 1)), ((0, 1), (-1, -1)), ((0, 1), (1, 0)), [(0, 1), (1, 1)],
            ([0, 1], (1, 1)), ((0, True), (1, 1)), ((False, 1), (1, 1)), ((0, 1), (1, 1), (1, 1)), ((0, 1),),
            (0, 1), ((0, 1), 1), ((0, 1), None), ((0, 1), (1,)), ((0, 1), (1, 1, 1)), ((0, 1), (0, 1)),
        ):
            self.assertIs(is_pace_paper(Q, (1, 1), (1, 1), thing), False)

    def test_a_step_in_turn(self):
        self.assertIs(is_pace_paper(BARE, (5, 1), (4, 1), ((0, 1), (9, 1))), False)
        self.assertIs(is_pace_paper(BARE, (5, 1), (5, 1), ((0, 1), (9, 1))), True)
        self.assertIs(is_pace_paper(BARE, (5, 1), (-5, 1), ((0, 1), (9, 1))), False)

    def test_odd_things(self):
        for thing in odd_things():
            for program in (P, Q, BARE):
                self.assertIs(is_pace_paper(program, (1,) * program.steps, (9, 1), thing), False)
        self.assertIs(is_pace_paper(P, (1, 1, 1), (9, 1), tuple(odd_things()[:3])), False)

    def test_no_fraction(self):
        wrong = [
            (2, 2), (6, 4), (0, 2), (1, 0), (1, -1), (-1, -1), [6, 1], (6,), (6, 1, 1), (True, 1), (6, True), (False, 1),
            6, "6/1", (6, None), (None, 1), (-4, 2), (10 ** 39, 10 ** 38), Fraction(1, 2), ((6, 1),),
        ]
        for thing in wrong + [thing for thing in odd_things() if not is_fraction_by_words(thing)]:
            for paper in (None, ((0, 1), (1, 1), (3, 1))):
                with self.assertRaises(NoFraction):
                    is_pace_paper(P, (1, 2, 3), thing, paper)
        for part in ((0, 1), (-3, 7), (6, 1), (10 ** 39, 10 ** 39 - 1)):
            self.assertIs(type(is_pace_paper(FAR, (1, 2, 3), part, None)), bool)

    def test_returned_programs(self):
        made = waiting(Q, ((0, 10 ** 39),))
        self.assertEqual(pace(made, (99, 99))[0], (99, 1))
        self.assertIs(is_pace_paper(made, (9, 9), (9, 1), ((0, 1), (9, 1))), True)


if __name__ == "__main__":
    unittest.main()
