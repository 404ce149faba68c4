import random
import unittest
from itertools import product

from aheadcells.errors import NoKinds, NoPrices
from aheadcells.followings import least_cells
from aheadcells.kinds import kind_cells, kind_price
from aheadcells.programs import makers
from tests import reference
from tests.samples import BARE, FAR, LOOSE, NAMED, P, Q, R, T, bound_program, drawn_programs, odd_things, spoiled

PRICES = (3, 0, 99, 7, 1, 20, 50, 98, 2, 11)


def cells_by_words(program, kinds):
    """The least sums over all choices of followers within each kind."""
    every = reference.maker_row(program)
    spans = reference.distance_dict(program)
    return {
        kind: reference.least_over([maker for maker, other in zip(every, kinds) if other == kind], spans)
        for kind in kinds
    }


class Kinds(unittest.TestCase):
    """Point 8.1."""

    def check(self, program, kinds, prices):
        cells = kind_cells(program, kinds)
        self.assertIs(type(cells), dict)
        self.assertEqual(cells, cells_by_words(program, kinds))
        price = kind_price(program, kinds, prices)
        if None in cells.values():
            self.assertIsNone(price)
        else:
            self.assertEqual(price, sum(many * prices[kind] for kind, many in cells.items()))
        return cells

    def test_ordinary(self):
        self.assertEqual(kind_cells(P, (0, 0, 0)), {0: 1})
        self.assertEqual(kind_cells(P, (4, 0, 4)), {0: 1, 4: 1})
        self.assertEqual(kind_cells(P, (9, 1, 0)), {0: 1, 1: 1, 9: 1})
        self.assertEqual(kind_price(P, (4, 0, 4), PRICES), 4)
        self.assertEqual(kind_price(R, (2,), PRICES), 198)
        self.assertEqual(kind_price(R, (1,), PRICES), 0)

    def test_one_kind_for_all(self):
        for program in NAMED:
            for kind in (0, 9):
                kinds = (kind,) * len(makers(program))
                self.assertEqual(kind_cells(program, kinds), {kind: least_cells(program)} if kinds else {})

    def test_without_makers(self):
        self.assertEqual(kind_cells(BARE, ()), {})
        self.assertEqual(kind_price(BARE, (), PRICES), 0)

    def test_no_number_is_enough(self):
        free = (0,) * 10
        self.assertEqual(kind_cells(Q, (5,)), {5: None})
        self.assertIsNone(kind_price(Q, (5,), free))
        self.assertEqual(kind_cells(LOOSE, (0, 0, 1, 2)), {0: 1, 1: None, 2: None})
        self.assertIsNone(kind_price(LOOSE, (0, 0, 1, 2), free))
        self.assertIsNone(kind_price(LOOSE, (0, 0, 1, 1), PRICES))

    def test_all_kinds(self):
        for program in (P, T, FAR, LOOSE):
            for kinds in product((0, 3, 9), repeat=len(makers(program))):
                self.check(program, kinds, PRICES)

    def test_drawn(self):
        source = random.Random(81)
        dearer = 0
        drawn = drawn_programs(82, 80, 5, 6, 3) + [bound_program(source, source.randint(2, 5), 6, 3) for _ in range(60)]
        for program in drawn:
            kinds = tuple(source.randint(0, 2) for _ in makers(program))
            cells = self.check(program, kinds, tuple(source.randint(0, 99) for _ in range(10)))
            if None not in cells.values() and least_cells(program) is not None:
                dearer += sum(cells.values()) > least_cells(program)
        self.assertGreater(dearer, 10)

    def test_new_dicts(self):
        kind_cells(P, (1, 1, 1)).clear()
        self.assertEqual(kind_cells(P, (1, 1, 1)), {1: 1})
        self.assertIsNot(kind_cells(P, (1, 1, 1)), kind_cells(P, (1, 1, 1)))

    def test_no_kinds(self):
        wrong = [(0, 0), (0, 0, 0, 0), [0, 0, 0], (0, 0, 10), (0, -1, 0), (0, True, 0), (0, None, 0), {0: 0}]
        for thing in odd_things() + wrong + [(0, 0, 10 ** 39)]:
            for call in (kind_cells, lambda program, kinds: kind_price(program, kinds, PRICES)):
                with self.assertRaises(NoKinds):
                    call(P, thing)
            with self.assertRaises(NoKinds):
                kind_price(P, thing, None)
        for thing in spoiled((0, 9, 4)):
            right = type(thing) is tuple and [type(part) for part in thing] == [int] * 3
            if right and all(0 <= kind <= 9 for kind in thing):
                self.check(FAR, thing, PRICES)
            else:
                with self.assertRaises(NoKinds):
                    kind_cells(FAR, thing)

    def test_no_prices(self):
        wrong = [PRICES[:9], PRICES + (0,), list(PRICES), PRICES[:9] + (100,), PRICES[:9] + (-1,), PRICES[:9] + (True,)]
        for thing in odd_things() + wrong + [PRICES[:9] + (None,), (PRICES,) * 10, PRICES[:9] + (10 ** 39,)]:
            for program, kinds in ((P, (0, 1, 0)), (Q, (0,)), (BARE, ())):
                with self.assertRaises(NoPrices):
                    kind_price(program, kinds, thing)

    def test_equal_calls(self):
        for _ in range(3):
            self.assertEqual(kind_cells(T, (0, 1, 1)), {0: 1, 1: 2})
            self.assertEqual(kind_price(T, (0, 1, 1), PRICES), 3)


if __name__ == "__main__":
    unittest.main()
