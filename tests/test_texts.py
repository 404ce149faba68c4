import random
import unittest

from aheadcells.followings import following
from aheadcells.joining import side_by_side, unrolled
from aheadcells.paces import waiting
from aheadcells.programs import Program
from aheadcells.tables import table_of
from aheadcells.texts import following_text, order_text, program_text, table_text
from tests.samples import BARE, FAR, GREAT, NAMED, P, Q, R, T, drawn_programs


def program_by_words(text):
    """The parts of a program's text, read back."""
    lines = text.split("\n")
    assert lines.pop() == ""
    rows = {"steps": [], "need": [], "before": []}
    words = []
    for line in lines:
        word, *numbers = line.split(" ")
        words.append(word)
        rows[word].append(tuple(map(int, numbers)))
    assert words == ["steps"] + ["need"] * len(rows["need"]) + ["before"] * len(rows["before"])
    return (rows["steps"][0][0], tuple(rows["need"]), tuple(rows["before"]))


class ProgramTexts(unittest.TestCase):
    """Point 12.1: program_text."""

    def test_ordinary(self):
        self.assertEqual(program_text(R), "steps 2\nneed 0 1 0\nbefore 1 0 2\n")
        self.assertEqual(program_text(P), "steps 3\nneed 0 1 0\nneed 1 2 0\nneed 2 0 1\n")
        self.assertEqual(program_text(BARE), "steps 2\nbefore 0 1 1\n")
        self.assertEqual(program_text(Program(1, (), ())), "steps 1\n")
        self.assertEqual(program_text(Program(12, ((11, 10, 6),), ())), "steps 12\nneed 11 10 6\n")

    def test_needs_ahead_of_befores(self):
        program = Program(2, ((1, 1, 1), (0, 1, 0)), ((1, 0, 2), (0, 0, 3)))
        self.assertEqual(program_text(program), "steps 2\nneed 1 1 1\nneed 0 1 0\nbefore 1 0 2\nbefore 0 0 3\n")

    def test_read_back(self):
        for program in list(NAMED) + [GREAT, unrolled(GREAT, 6), side_by_side(T, FAR)] + drawn_programs(121, 40):
            parts = (program.steps, program.needs, program.befores)
            self.assertEqual(program_by_words(program_text(program)), parts)

    def test_great_rounds(self):
        great = 10 ** 39
        self.assertEqual(program_text(waiting(Q, ((0, great),))), f"steps 2\nneed 0 1 0\nbefore 1 0 {great}\n")


class OtherTexts(unittest.TestCase):
    """Points 12.1 and 12.2: order_text, following_text and table_text."""

    def test_orders(self):
        self.assertEqual(order_text(()), "-")
        self.assertEqual(order_text((0,)), "0")
        self.assertEqual(order_text((0, 11, 3)), "0 11 3")
        self.assertEqual(order_text((0, 1) * 200), " ".join("01" * 200))

    def test_followings(self):
        self.assertEqual(following_text(()), "-")
        self.assertEqual(following_text(((0, 2),)), "0:2")
        self.assertEqual(following_text(following(P)), "1:0 2:0 0:1")
        self.assertEqual(following_text(((11, 10 ** 39), (0, 0))), f"11:{10 ** 39} 0:0")

    def test_tables(self):
        self.assertEqual(table_text(()), "")
        self.assertEqual(table_text(((0,),)), "row 0\n")
        self.assertEqual(table_text(((0, 1), (12,), (3, 2, 1))), "row 0 1\nrow 12\nrow 3 2 1\n")
        self.assertEqual(table_text(table_of(P, following(P))), "row 0\nrow 0\nrow 0\n")
        self.assertEqual(table_text(((10 ** 39,),)), f"row {10 ** 39}\n")

    def test_long_ones(self):
        source = random.Random(122)
        table = tuple(tuple(source.randrange(300) for _ in range(1000)) for _ in range(12))
        lines = table_text(table).split("\n")
        self.assertEqual(lines.pop(), "")
        self.assertEqual(tuple(tuple(map(int, line.split(" ")[1:])) for line in lines), table)
        self.assertEqual({line.split(" ")[0] for line in lines}, {"row"})

    def test_equal_calls(self):
        for _ in range(2):
            self.assertEqual(order_text((1, 0)), "1 0")
            self.assertIs(type(program_text(R)), str)


if __name__ == "__main__":
    unittest.main()
