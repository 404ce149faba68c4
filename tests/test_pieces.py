import random
import unittest
from itertools import permutations

from aheadcells.followings import is_lot, least_cells, lot
from aheadcells.joining import joined, moved, side_by_side, unrolled
from aheadcells.paces import waiting
from aheadcells.pieces import loose_makers, piece_cells, pieces
from aheadcells.programs import Program, makers
from tests import reference
from tests.samples import BARE, FAR, GREAT, LONE, LOOSE, NAMED, P, Q, R, T, bound_program, drawn_programs


def reached(program):
    """The pairs of steps with a way of links from the one to the other, or the same."""
    return set(reference.least_sums(program))


def pieces_by_words(program):
    """All pieces, each time that one that can come next whose first step is the least (19.1)."""
    ways = reached(program)
    left = {
        tuple(other for other in range(program.steps) if (step, other) in ways and (other, step) in ways)
        for step in range(program.steps)
    }
    found = []
    while left:
        free = [
            piece for piece in left
            if not any((one, other) in ways for rest in left - {piece} for one in rest for other in piece)
        ]
        found.append(min(free))
        left.remove(min(free))
    return found


def loose_by_words(program):
    ways = reached(program)
    return tuple(
        maker for maker in reference.maker_row(program)
        if any((reader, maker) not in ways for reader, rounds in reference.reader_pairs(program, maker))
    )


def cells_by_words(program):
    spans = reference.distance_dict(program)
    loose = loose_by_words(program)
    found = []
    for piece in pieces_by_words(program):
        every = [maker for maker in reference.maker_row(program) if maker in piece]
        if any(maker in loose for maker in every):
            found.append(None)
            continue
        sums = [[spans[one, other] for one, other in zip(every, row)] for row in permutations(every)]
        found.append(min(sum(row) for row in sums if None not in row))
    return found


class Pieces(unittest.TestCase):
    """Point 19.1."""

    def check(self, program):
        before = (program.steps, program.needs, program.befores)
        found = pieces(program)
        self.assertIs(type(found), list)
        self.assertTrue(all(type(piece) is tuple for piece in found))
        self.assertEqual(found, pieces_by_words(program))
        loose = loose_makers(program)
        self.assertIs(type(loose), tuple)
        self.assertEqual(loose, loose_by_words(program))
        cells = piece_cells(program)
        self.assertIs(type(cells), list)
        self.assertEqual(cells, cells_by_words(program))
        self.assertEqual((program.steps, program.needs, program.befores), before)
        # The twelfth fact.
        least = least_cells(program)
        self.assertEqual(len(loose) > 0, lot(program) is not None)
        self.assertEqual(len(loose) > 0, None in cells)
        self.assertEqual(len(loose) > 0, least is None)
        if not loose:
            self.assertEqual(sum(cells), least)
        return found

    def test_steps_without_links(self):
        self.assertEqual(self.check(Program(3, (), ())), [(0,), (1,), (2,)])
        self.assertEqual(piece_cells(Program(3, (), ())), [0, 0, 0])
        self.assertEqual(loose_makers(Program(3, (), ())), ())
        self.assertEqual(self.check(Program(1, (), ())), [(0,)])

    def test_one_ring(self):
        for program, least in ((P, 1), (T, 3), (R, 2)):
            self.assertEqual(self.check(program), [tuple(range(program.steps))])
            self.assertEqual(piece_cells(program), [least])
            self.assertEqual(loose_makers(program), ())

    def test_links_to_themselves(self):
        self.assertEqual(self.check(LONE), [(0,)])
        self.assertEqual((piece_cells(LONE), loose_makers(LONE)), ([3], ()))
        self.assertEqual(self.check(Program(2, ((1, 1, 2),), ((0, 0, 1),))), [(0,), (1,)])

    def test_two_rings_with_a_link_between_them(self):
        rings = ((0, 2, 0), (1, 3, 0)), ((2, 0, 1), (3, 1, 2))
        program = Program(4, rings[0], rings[1])
        self.assertEqual(self.check(program), [(0, 2), (1, 3)])
        self.assertEqual(piece_cells(program), [1, 2])
        # A before between them puts the one behind the other.
        program = Program(4, rings[0], rings[1] + ((3, 0, 4),))
        self.assertEqual(self.check(program), [(1, 3), (0, 2)])
        self.assertEqual((piece_cells(program), least_cells(program)), ([2, 1], 3))
        # So does a need, whose maker is loose then.
        program = Program(4, rings[0] + ((3, 0, 4),), rings[1])
        self.assertEqual(self.check(program), [(1, 3), (0, 2)])
        self.assertEqual((piece_cells(program), loose_makers(program)), ([None, 1], (3,)))
        self.assertIsNone(least_cells(program))
        # Both ways round, it is one ring.
        program = Program(4, rings[0] + ((3, 0, 4), (2, 1, 0)), rings[1])
        self.assertEqual(self.check(program), [(0, 1, 2, 3)])

    def test_loose_makers(self):
        self.assertEqual((self.check(Q), loose_makers(Q), piece_cells(Q)), ([(0,), (1,)], (0,), [None, 0]))
        self.assertEqual(self.check(LOOSE), [(2,), (3,), (0, 1), (4,)])
        self.assertEqual((loose_makers(LOOSE), piece_cells(LOOSE)), ((2, 3), [None, None, 1, 0]))
        # One reader that holds the maker, and one that does not.
        program = Program(3, ((0, 1, 0), (0, 2, 0)), ((1, 0, 1),))
        self.assertEqual(self.check(program), [(0, 1), (2,)])
        self.assertEqual((loose_makers(program), piece_cells(program)), ((0,), [None, 0]))

    def test_order_of_pieces(self):
        self.assertEqual(self.check(Program(4, (), ((3, 0, 0), (2, 0, 6)))), [(1,), (2,), (3,), (0,)])
        self.assertEqual(self.check(Program(4, (), ((3, 0, 0), (0, 1, 0)))), [(2,), (3,), (0,), (1,)])
        self.assertEqual(self.check(Program(4, (), ((1, 0, 0), (3, 2, 0)))), [(1,), (0,), (3,), (2,)])
        self.assertEqual(self.check(Program(5, (), ((4, 3, 1), (3, 1, 1), (3, 4, 1), (2, 0, 2)))), [
            (2,), (0,), (3, 4), (1,)])
        # A piece comes when all that lead to it are there, which may be far behind.
        self.assertEqual(self.check(Program(5, (), ((4, 1, 0), (0, 1, 0), (4, 0, 0), (1, 2, 3), (2, 1, 3)))), [
            (3,), (4,), (0,), (1, 2)])

    def test_drawn(self):
        source = random.Random(271)
        seen = {}
        drawn = drawn_programs(272, 400, 6, 6, 3) + drawn_programs(273, 60, 9, 8, 3)
        for program in list(NAMED) + [GREAT] + drawn + [bound_program(source, 6, 6, 2) for _ in range(20)]:
            many = len(self.check(program))
            kind = (many > 1, many < program.steps, len(loose_makers(program)) > 0)
            seen[kind] = seen.get(kind, 0) + 1
        self.assertGreater(min(seen[kind] for kind in ((True, True, True), (True, True, False), (False, True, False))), 5)

    def test_lots(self):
        for program in drawn_programs(274, 150, 6, 5, 3):
            if loose_makers(program):
                self.assertTrue(is_lot(program, lot(program)))

    def test_new_lists(self):
        for call in (pieces, piece_cells):
            call(LOOSE).clear()
            self.assertEqual(len(call(LOOSE)), 4)
            self.assertIsNot(call(LOOSE), call(LOOSE))

    def test_equal_calls(self):
        for program in NAMED:
            twin = Program(program.steps, program.needs, program.befores)
            for call in (pieces, piece_cells, loose_makers):
                self.assertEqual(call(program), call(twin))

    def test_programs_that_were_returned(self):
        many = [(one, other, 6) for one in range(7) for other in range(7)]
        for program in (
            unrolled(T, 3), unrolled(LOOSE, 4), side_by_side(T, side_by_side(FAR, P)), waiting(Q, ((0, 12),)),
            joined(GREAT, many), side_by_side(LOOSE, unrolled(R, 4)),
            moved(side_by_side(P, side_by_side(LOOSE, BARE)), tuple(reversed(range(10)))),
        ):
            self.check(program)

    def test_many_steps(self):
        program = R
        for _ in range(7):
            program = side_by_side(program, program)
        program = joined(program, [(step, step - 1, 2) for step in range(2, 256, 2)])
        self.assertEqual(pieces(program), [(step, step + 1) for step in reversed(range(0, 256, 2))])
        self.assertEqual(piece_cells(program), [2] * 128)
        self.assertEqual(loose_makers(program), ())
        self.assertEqual(len(makers(program)), 128)
        self.assertEqual(len(pieces(joined(program, [(1, 255, 6)]))), 1)


if __name__ == "__main__":
    unittest.main()
