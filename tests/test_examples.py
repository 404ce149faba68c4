import unittest

from aheadcells.cheapest import always, many_cheapest
from aheadcells.codes import code_of
from aheadcells.counting import many_orders
from aheadcells.followings import following, least_cells, lot
from aheadcells.joining import unrolled
from aheadcells.orders import ahead, can_be_done, fault, wanted
from aheadcells.paces import pace
from aheadcells.programs import Program, makers, readers
from aheadcells.running import last_readers, most_wanted
from aheadcells.shorts import least_short
from aheadcells.tables import table_clash
from aheadcells.texts import program_text
from aheadcells.values import apart, distances
from aheadcells.ways import least_rounds


class Examples(unittest.TestCase):
    """The examples of the document, as they stand there."""

    def setUp(self):
        self.p = Program(3, ((0, 1, 0), (1, 2, 0), (2, 0, 1)), ())
        self.q = Program(2, ((0, 1, 0),), ())
        self.r = Program(2, ((0, 1, 0),), ((1, 0, 2),))
        self.t = Program(6, ((0, 1, 0), (0, 2, 0), (3, 5, 0), (4, 5, 0)), ((1, 3, 0), (2, 4, 0), (5, 0, 1)))

    def test_e01(self):
        self.assertEqual(readers(self.t, 0), ((1, 0), (2, 0)))
        self.assertEqual(makers(self.t), (0, 3, 4))

    def test_e02(self):
        self.assertEqual(fault(self.p, (0, 1, 0)), 2)
        self.assertEqual(can_be_done(self.p, (0, 1)), (2,))

    def test_e03(self):
        self.assertEqual(wanted(self.r, (0, 0)), [(0, 1), (0, 2)])

    def test_e04(self):
        self.assertEqual(ahead(self.r, 0, 1), 2)
        self.assertIsNone(ahead(self.q, 0, 1))

    def test_e05(self):
        self.assertEqual(least_rounds(self.p, 2, 1), 1)

    def test_e06(self):
        self.assertEqual(distances(self.p), ((1, 0, 0), (1, 1, 0), (1, 1, 1)))

    def test_e07(self):
        self.assertEqual(apart(self.t, (0, 1), (3, 1)), "clash")
        self.assertEqual(apart(self.t, (0, 1), (3, 2)), "first")

    def test_e08(self):
        least = [least_cells(program) for program in (self.p, self.r, self.t, self.q)]
        self.assertEqual(least, [1, 2, 3, None])

    def test_e09(self):
        self.assertEqual(following(self.p), ((1, 0), (2, 0), (0, 1)))
        self.assertEqual(lot(self.q), ((0,), ()))

    def test_e10(self):
        self.assertIsNone(table_clash(self.r, ((0, 1),)))

    def test_e11(self):
        self.assertEqual(most_wanted(self.t)[:2], ("most", 2))
        self.assertEqual(last_readers(self.t), (None, (5, 0), (5, 0)))

    def test_e12(self):
        self.assertEqual(pace(self.p, (1, 2, 3))[0], (6, 1))

    def test_e13(self):
        self.assertEqual(many_cheapest(self.p), 1)
        self.assertEqual(always(self.p), [(0, 1), (1, 2), (2, 0)])

    def test_e14(self):
        self.assertEqual(least_cells(unrolled(self.r, 3)), 2)

    def test_e15(self):
        self.assertEqual(many_orders(self.p, (2, 2, 2)), 1)
        self.assertEqual(many_orders(self.q, (2, 2)), 2)

    def test_e16(self):
        self.assertEqual(least_short(self.t)[0], 2)

    def test_e17(self):
        self.assertEqual(code_of(self.r, ((0, 1),)), ((((), 0), ((), 1)), (((0,), None), ((1,), None))))

    def test_e18(self):
        self.assertEqual(program_text(self.r), "steps 2\nneed 0 1 0\nbefore 1 0 2\n")


if __name__ == "__main__":
    unittest.main()
