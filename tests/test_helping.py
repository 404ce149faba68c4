import random
import unittest
from itertools import combinations

from aheadcells.errors import NoNumber
from aheadcells.followings import least_cells
from aheadcells.helping import helping, is_helping, tight
from aheadcells.joining import side_by_side, unrolled
from aheadcells.paces import waiting
from aheadcells.programs import Program, makers
from tests import reference
from tests.samples import (
    BARE, FAR, GREAT, LONE, LOOSE, NAMED, P, Q, R, T, bound_program, drawn_programs, odd_things, spoiled,
)

# Two pieces side by side, each with a value that is wanted for three rounds: one before helps but one of them.
TWO = Program(4, ((0, 1, 0), (2, 3, 0)), ((1, 0, 3), (3, 2, 3)))
# A value that two steps read; each of them has to be held.
FORK = Program(3, ((0, 1, 0), (0, 2, 0)), ())


def parts(program):
    return (program.steps, program.needs, program.befores)


def lawful_program(steps, needs, befores):
    """Whether no ring of links sums to 0 rounds, told by taking out steps to which nothing leads over 0 rounds."""
    links = [(one, other) for one, other, rounds in needs + befores if rounds == 0]
    left = set(range(steps))
    while left:
        free = {step for step in left if all(other != step or one not in left for one, other in links)}
        if not free:
            return False
        left -= free
    return True


class Made:
    """What the reference asks of a program, for one that may be beyond the bounds."""

    def __init__(self, steps, needs, befores):
        self.steps = steps
        self.needs = needs
        self.befores = befores


def helps(program, many, befores):
    """Whether so many cells are enough for the program with further befores."""
    row = program.befores + tuple(befores)
    if not lawful_program(program.steps, program.needs, row):
        return False
    least = reference.least_following_sum(Made(program.steps, program.needs, row))
    return least is not None and least <= many


def new_befores(program, most):
    return [
        (one, other, rounds) for one in range(program.steps) for other in range(program.steps)
        for rounds in range(most + 1) if (one, other, rounds) not in program.befores
    ]


def fewest(program, many, most):
    """The least number of befores that help, or None if no two of them do."""
    for number in range(3):
        if any(helps(program, many, row) for row in combinations(new_befores(program, most), number)):
            return number
    return None


class Helping(unittest.TestCase):
    """Point 17.1: helping."""

    def check(self, program, many, most):
        """How many befores help; they are judged by the words."""
        before = parts(program)
        found = helping(program, many, most)
        self.assertEqual(parts(program), before)
        if found is None:
            return None
        self.assertIs(type(found), tuple)
        self.assertTrue(len(found) <= 2 and len(set(found)) == len(found))
        self.assertTrue(set(found) <= set(new_befores(program, most)))
        self.assertTrue(helps(program, many, found))
        self.assertIs(is_helping(program, many, most, found), True)
        return len(found)

    def test_none_needed(self):
        for program in NAMED:
            least = least_cells(program)
            if least is not None:
                for most in range(4):
                    for many in (least, least + 1, 200):
                        self.assertEqual(helping(program, many, most), ())

    def test_one(self):
        # Step 1 cannot be held within the round, as it reads what step 0 made in it.
        self.assertEqual(helping(Q, 1, 1), ((1, 0, 1),))
        self.assertEqual(helping(R, 1, 3), ((1, 0, 1),))
        self.assertEqual(self.check(TWO, 4, 1), 1)
        self.assertEqual(self.check(T, 2, 0), 1)

    def test_two(self):
        self.assertEqual(self.check(TWO, 2, 1), 2)
        self.assertEqual(self.check(side_by_side(Q, Q), 2, 1), 2)
        self.assertEqual(self.check(FORK, 1, 3), 2)
        # One cell for both pieces, whose steps are done one behind another.
        self.assertEqual(self.check(TWO, 1, 1), 2)
        self.assertEqual(self.check(side_by_side(Q, Q), 1, 1), 2)

    def test_no_two_do(self):
        for program, many, most in (
            (Q, 1, 0), (R, 0, 3), (Q, 0, 3), (TWO, 0, 3), (TWO, 1, 0), (TWO, 2, 0), (FAR, 8, 3), (LONE, 2, 3),
            (side_by_side(Q, side_by_side(Q, Q)), 200, 3), (FORK, 1, 0), (FORK, 200, 0),
        ):
            self.assertIsNone(helping(program, many, most), (program.needs, many, most))

    def test_without_makers(self):
        for program in (BARE, Program(1, (), ())):
            for many in (0, 1, 200):
                self.assertEqual(helping(program, many, 0), ())

    def test_against_all_pairs(self):
        seen = {}
        source = random.Random(221)
        drawn = drawn_programs(222, 120, 4, 5, 3) + [bound_program(source, 4, 4, 2) for _ in range(20)]
        loose = [side_by_side(one, other) for one in drawn_programs(228, 8, 2, 2, 1) for other in (Q, R, BARE)]
        for program in drawn + loose + [P, Q, R, FORK, TWO]:
            least = least_cells(program)
            if least is None:
                least = source.randint(2, 6)
            for many, most in ((max(0, least - 1), source.randint(0, 2)), (max(0, least - source.randint(1, 4)), 1)):
                number = self.check(program, many, most)
                self.assertEqual(number, fewest(program, many, most), (parts(program), many, most))
                seen[number] = seen.get(number, 0) + 1
        self.assertGreater(min(seen.values()), 10)
        self.assertEqual(set(seen), {None, 0, 1, 2})

    def test_two_that_do_nothing_alone(self):
        """Neither changes how many cells are needed by itself: what is waited for goes along both."""
        seen = {True: 0, False: 0}
        source = random.Random(223)
        for _ in range(150):
            program = bound_program(source, 5, 3, 3)
            least = least_cells(program)
            for many in range(max(0, least - 4), least):
                if self.check(program, many, 1) == 2:
                    found = helping(program, many, 1)
                    self.assertFalse(any(helps(program, many, [one]) for one in new_befores(program, 1)))
                    seen[any(helps(program, least - 1, [one]) for one in found)] += 1
        self.assertGreater(min(seen.values()), 0)
        self.assertGreater(sum(seen.values()), 8)

    def test_over_more_rounds(self):
        """More rounds than one are never needed, whatever is the most; one is where 0 would be stuck."""
        for program in (Q, R, TWO, FORK):
            for many in range(4):
                found = [None if row is None else len(row) for row in (helping(program, many, most) for most in (1, 2, 3))]
                self.assertEqual(found, [found[0]] * 3)

    def test_great_programs(self):
        source = random.Random(224)
        for program in [GREAT] + [bound_program(source, 12, 30, 6) for _ in range(4)]:
            least = min(200, least_cells(program) - 1)
            found = helping(program, least, 3)
            self.assertTrue(found is None or is_helping(program, least, 3, found))
            self.assertIsNone(helping(program, 0, 3))

    def test_numbers(self):
        for many, most in ((0, 0), (200, 3), (200, 0), (0, 3)):
            self.assertIsNotNone(helping(BARE, many, most))
        for thing in odd_things() + [-1, 201, 10 ** 39, True, False, "1", (1,), None]:
            for call in (
                lambda: helping(P, thing, 0), lambda: helping(P, thing, None),
                lambda: is_helping(P, thing, 0, ()), lambda: is_helping(P, thing, None, None),
            ):
                with self.assertRaises(NoNumber):
                    call()
        for thing in odd_things() + [-1, 4, 10 ** 39, True, False, "1", (1,), None]:
            for call in (lambda: helping(P, 1, thing), lambda: is_helping(P, 1, thing, ())):
                with self.assertRaises(NoNumber):
                    call()

    def test_equal_calls(self):
        for program in NAMED:
            for many in (0, 2, 5):
                self.assertEqual(helping(program, many, 1), helping(Program(*parts(program)), many, 1))


def is_helping_by_words(program, many, most, thing):
    if type(thing) is not tuple or len(thing) > 2:
        return False
    for before in thing:
        if type(before) is not tuple or [type(part) for part in before] != [int] * 3:
            return False
        if before not in new_befores(program, most):
            return False
    return len(set(thing)) == len(thing) and helps(program, many, thing)


class IsHelping(unittest.TestCase):
    """Point 17.1: is_helping."""

    def check(self, program, many, most, thing):
        found = is_helping(program, many, most, thing)
        self.assertIs(found, is_helping_by_words(program, many, most, thing), (parts(program), many, most, thing))
        return found

    def test_against_all_pairs(self):
        seen = {True: 0, False: 0}
        for program in (P, Q, R, FORK, LONE) + tuple(drawn_programs(225, 12, 3, 4, 2)):
            for many, most in ((1, 0), (1, 1), (3, 2)):
                for number in range(3):
                    for row in combinations(new_befores(program, most), number):
                        seen[self.check(program, many, most, row)] += 1
                        self.check(program, many, most, row[::-1])
        self.assertGreater(min(seen.values()), 1000)

    def test_any_number_up_to_two(self):
        for thing in ((), ((0, 0, 2),), ((0, 0, 2), (1, 1, 2))):
            self.assertIs(is_helping(P, 1, 2, thing), True)
        # Not as few as can be, but right.
        self.assertIs(is_helping(P, 200, 3, ((0, 1, 3), (2, 2, 3))), True)
        self.assertIs(is_helping(P, 1, 2, ((0, 0, 2), (1, 1, 2), (2, 2, 2))), False)
        self.assertIs(is_helping(P, 1, 2, None), False)
        self.assertIs(is_helping(R, 1, 2, ()), False)

    def test_there_already(self):
        self.assertIs(is_helping(R, 2, 3, ((1, 0, 2),)), False)
        self.assertIs(is_helping(R, 2, 3, ((1, 0, 1),)), True)
        self.assertIs(is_helping(R, 2, 3, ((1, 0, 3),)), True)
        self.assertIs(is_helping(R, 2, 3, ((1, 0, 1), (1, 0, 2))), False)
        # A need that is there is no before that is.
        self.assertIs(is_helping(R, 2, 3, ((0, 1, 0),)), True)

    def test_twice_the_same(self):
        self.assertIs(is_helping(R, 2, 3, ((1, 0, 1), (1, 0, 1))), False)
        self.assertIs(is_helping(R, 2, 3, ((1, 0, 1), (1, 0, 3))), True)

    def test_over_more_rounds_than_most(self):
        for most in range(4):
            for rounds in range(8):
                self.assertIs(is_helping(R, 2, most, ((1, 1, rounds),)), 1 <= rounds <= most)

    def test_stuck(self):
        self.assertIs(is_helping(Q, 200, 3, ((1, 0, 0),)), False)
        self.assertIs(is_helping(P, 200, 3, ((1, 1, 0),)), False)
        self.assertIs(is_helping(TWO, 200, 3, ((1, 2, 0), (3, 0, 0))), False)
        self.assertIs(is_helping(TWO, 200, 3, ((1, 2, 0), (3, 0, 1))), True)
        self.assertIs(is_helping(TWO, 200, 3, ((1, 2, 0),)), True)

    def test_any_object(self):
        for thing in odd_things():
            for program, many, most in ((P, 1, 3), (Q, 1, 0), (BARE, 0, 1)):
                self.check(program, many, most, thing)
            self.check(P, 1, 3, (thing,))
            self.check(P, 1, 3, (thing, (1, 1, 1)))
            self.check(P, 1, 3, ((0, 0, thing),))
            self.check(P, 1, 3, ((thing, 0, 1),))
            self.check(P, 1, 3, ((0, thing, 1),))

    def test_spoiled(self):
        seen = {True: 0, False: 0}
        for program, many, thing in ((Q, 1, ((1, 0, 1),)), (TWO, 2, ((1, 0, 1), (3, 2, 1))), (R, 2, ())):
            for other in spoiled(thing):
                seen[self.check(program, many, 2, other)] += 1
        self.assertGreater(seen[False], 100)

    def test_lists(self):
        self.assertIs(is_helping(Q, 1, 1, [(1, 0, 1)]), False)
        self.assertIs(is_helping(Q, 1, 1, ([1, 0, 1],)), False)
        self.assertIs(is_helping(Q, 1, 1, ((True, False, True),)), False)
        self.assertIs(is_helping(Q, 1, 1, ((1, 0, True),)), False)


class Tight(unittest.TestCase):
    """Point 17.1: tight."""

    def check(self, program):
        """The links that are told, held against least_cells of the program without each of them."""
        least = reference.least_following_sum(program)
        expected = []
        for word, row in (("before", program.befores), ("need", program.needs)):
            for number in range(len(row)):
                rest = row[:number] + row[number + 1:]
                needs, befores = (rest, program.befores) if word == "need" else (program.needs, rest)
                if reference.least_following_sum(Made(program.steps, needs, befores)) != least:
                    expected.append((word, number))
        found = tight(program)
        self.assertIs(type(found), list)
        self.assertEqual(found, expected)
        return found

    def test_ordinary(self):
        self.assertEqual(self.check(R), [("before", 0), ("need", 0)])
        self.assertEqual(self.check(P), [("need", 0), ("need", 1), ("need", 2)])
        self.assertEqual(self.check(BARE), [])
        self.assertEqual(self.check(LONE), [("need", 1)])
        # Without the need it comes: no value is made, and none is too many.
        self.assertEqual(self.check(Q), [("need", 0)])
        self.assertEqual(self.check(FORK), [])
        self.assertEqual(self.check(T), [("before", number) for number in range(3)] + [
            ("need", number) for number in range(4)])

    def test_befores_stand_ahead_of_needs(self):
        links = tuple((one, one, 1) for one in range(11))
        program = Program(12, ((11, 11, 1),) + links, ((11, 11, 2),))
        self.assertEqual(self.tight_words(program), ["need"] * 12)
        program = Program(2, ((0, 1, 0), (1, 1, 1)), ((1, 0, 2), (0, 0, 3)))
        self.assertEqual(tight(program), [("before", 0), ("need", 0), ("need", 1)])
        self.assertEqual(tight(program), sorted(tight(program)))

    def tight_words(self, program):
        found = tight(program)
        self.assertEqual(found, sorted(found))
        # Ascending by the number, so 10 stands behind 9.
        self.assertEqual([number for word, number in found], list(range(len(found))))
        return [word for word, number in found]

    def test_comes_and_goes(self):
        goes = {"before": 0, "need": 0}
        comes = 0
        for program in drawn_programs(226, 300, 5, 6, 3) + list(NAMED):
            least = least_cells(program)
            for word, number in self.check(program):
                row = program.befores if word == "before" else program.needs
                rest = row[:number] + row[number + 1:]
                needs, befores = (rest, program.befores) if word == "need" else (program.needs, rest)
                other = least_cells(Program(program.steps, needs, befores))
                goes[word] += least is not None and other is None
                comes += least is None and other is not None
        self.assertGreater(min(goes.values()), 3)
        self.assertGreater(comes, 10)

    def test_new_lists(self):
        tight(R).clear()
        self.assertEqual(len(tight(R)), 2)
        self.assertIsNot(tight(R), tight(R))

    def test_great_programs(self):
        source = random.Random(227)
        for program in [GREAT, bound_program(source, 12, 20, 6), side_by_side(R, R), unrolled(P, 5), LOOSE]:
            found = tight(program)
            self.assertEqual(found, sorted(found))
            self.assertTrue(set(word for word, number in found) <= {"before", "need"})
            self.assertIs(type(found), list)


class BeyondTheBounds(unittest.TestCase):
    """Points 1.1 and 17.1: programs that were returned."""

    def test_helping(self):
        for program, many, number in (
            (side_by_side(GREAT, R), 200, 1), (unrolled(Q, 4), 4, 1), (side_by_side(TWO, unrolled(BARE, 6)), 2, 2),
            (waiting(Q, ((0, 10 ** 39),)), 1, 1),
        ):
            found = helping(program, many, 1)
            self.assertEqual(len(found), number)
            self.assertIs(is_helping(program, many, 1, found), True)
            self.assertIs(is_helping(program, many, 1, ()), False)
            steps = program.steps
            self.assertIs(is_helping(program, 200, 3, ((steps - 1, steps, 1),)), False)
        self.assertIs(is_helping(unrolled(R, 6), 2, 3, ((11, 0, 3), (0, 11, 3))), True)

    def test_tight(self):
        made = side_by_side(R, side_by_side(P, T))
        self.assertEqual(tight(made), sorted(
            [(word, number) for word, number in tight(R)]
            + [(word, number + 1) for word, number in tight(P)]
            + [(word, number + (4 if word == "need" else 1)) for word, number in tight(T)]
        ))
        self.assertEqual(tight(waiting(Q, ((0, 10 ** 39),))), [("before", 0), ("need", 0)])
        self.assertEqual(tight(waiting(R, ((0, 10 ** 39),))), [("before", 0), ("need", 0)])
        self.assertEqual(len(makers(made)), 7)


if __name__ == "__main__":
    unittest.main()
