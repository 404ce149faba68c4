import random
import re
import unittest

from aheadcells.counting import many_orders
from aheadcells.desk import Desk
from aheadcells.errors import (
    BadProgram, BadText, CellError, NoCounts, NoLine, NoName, NoOrder, NoStep, NoTable, NothingDone, NoTimes, NoValue,
    Stuck, TooMany,
)
from aheadcells.followings import following, is_following, least_cells
from aheadcells.helping import tight
from aheadcells.orders import ahead, drawn_order, wanted
from aheadcells.paces import pace
from aheadcells.programs import Program
from aheadcells.reading import read_following, read_order, read_program, read_table
from aheadcells.running import most_wanted
from aheadcells.shorts import least_short
from aheadcells.tables import table_clash, table_of
from aheadcells.texts import following_text, order_text, program_text, table_text
from aheadcells.values import apart
from aheadcells.ways import least_rounds
from tests.samples import BARE, FAR, GREAT, LONE, LOOSE, NAMED, P, Q, R, T, drawn_programs, odd_things

NUMBER = "(?:0|[1-9][0-9]{0,8})"
NAME = "[a-z]{1,8}"
FORMS = re.compile("|".join([
    f"(?:program|order|followed|table) {NAME} [^\n]+",
    f"(?:drop|cells|wanted|short|tight) {NAME}",
    f"(?:least|ahead) {NAME} {NUMBER} {NUMBER}",
    f"clash {NAME} {NUMBER} {NUMBER} {NUMBER} {NUMBER}",
    f"(?:orders|pace) {NAME} {NUMBER}(?:,{NUMBER})*",
    "names|undo",
]))


def barred(text):
    return text.replace("\n", "|")


def none_or(number):
    return "none" if number is None else str(number)


def numbers_of(words):
    return tuple(int(word) for word in words)


class PlainDesk:
    """A desk by the words of 13.1 and 13.2: a dict, and all that it was ahead of what can be taken back."""

    def __init__(self):
        self.kept = {}
        self.past = []

    def tell(self, line):
        if not isinstance(line, str) or not FORMS.fullmatch(line):
            raise NoLine()
        word, _, rest = line.partition(" ")
        name, _, behind = rest.partition(" ")
        if word == "names":
            return " ".join(sorted(self.kept)) or "none"
        if word == "undo":
            if not self.past:
                raise NothingDone()
            self.kept = self.past.pop()
            return "ok"
        if word == "program":
            program = read_program(behind.replace("|", "\n"))
            self.past.append(dict(self.kept))
            self.kept[name] = program
            return "ok"
        if name not in self.kept:
            raise NoName(name)
        if word == "drop":
            self.past.append(dict(self.kept))
            del self.kept[name]
            return "ok"
        return self.answer(word, self.kept[name], behind)

    def answer(self, word, program, behind):
        if word in ("order", "followed", "table"):
            return self.answer_text(word, program, behind)
        if word in ("orders", "pace"):
            row = numbers_of(behind.split(","))
            if word == "orders":
                return str(many_orders(program, row))
            return "{}/{}".format(*pace(program, row)[0])
        numbers = numbers_of(behind.split())
        if word == "cells":
            return none_or(least_cells(program))
        if word == "wanted":
            found = most_wanted(program)
            return str(found[1]) if found[0] == "most" else "endless"
        if word == "least":
            return none_or(least_rounds(program, *numbers))
        if word == "ahead":
            return none_or(ahead(program, *numbers))
        if word == "clash":
            return apart(program, numbers[:2], numbers[2:])
        if word == "short":
            return str(least_short(program)[0])
        return " ".join(f"{kind} {number}" for kind, number in tight(program)) or "none"

    def answer_text(self, word, program, text):
        if word == "order":
            return str(len(wanted(program, read_order(text))))
        if word == "followed":
            return "yes" if is_following(program, read_following(text)) else "no"
        return "wrong" if table_clash(program, read_table(text.replace("|", "\n"))) else "right"


def outcome(desk, line):
    """What a desk returns, or the kind of error that it raises with its fields."""
    try:
        return desk.tell(line)
    except CellError as error:
        # A ring is free; the tests of reading judge it.
        fields = {} if type(error) is Stuck else vars(error)
        return (type(error), tuple(sorted(fields.items())))


def right_lines(name, program):
    """Lines of every form with a name, for this program."""
    steps = program.steps
    last = steps - 1
    row = following(program) or ((0, 1),)
    table = table_of(program, row) if following(program) else ((0,), (0, 1))
    order = drawn_order(program, list(range(9)))
    ones = ",".join(["1"] * steps)
    return [
        f"program {name} {barred(program_text(program))}", f"cells {name}", f"wanted {name}", f"short {name}",
        f"tight {name}", f"drop {name}", f"least {name} 0 {last}", f"least {name} {last} 0", f"ahead {name} 0 {last}",
        f"ahead {name} {last} 0", f"clash {name} 0 1 0 2", f"clash {name} 0 1 {last} 1", f"clash {name} 0 7 0 2",
        f"order {name} -", f"order {name} {order_text(order)}", f"order {name} {last} {last}",
        f"followed {name} {following_text(row)}", f"followed {name} -", f"followed {name} 0:999999999",
        f"table {name} {barred(table_text(table)) or '|'}", f"table {name} {'row 0|' * len(row)}", f"table {name} row 3|",
        f"orders {name} {ones}", f"orders {name} 2,2", f"orders {name} {','.join(['3'] * steps)}", f"pace {name} {ones}",
        f"pace {name} {','.join(str(1 + step) for step in range(steps))}", f"pace {name} 3", f"orders {name} 0",
        "names", "undo",
    ]


class DeskTests(unittest.TestCase):
    """What the tests of points 13.1 and 13.2 have in common."""

    def desk_with(self, programs):
        """A desk and a plain one that keep these programs."""
        both = (Desk(), PlainDesk())
        for name, program in programs.items():
            for desk in both:
                self.assertEqual(desk.tell(f"program {name} {barred(program_text(program))}"), "ok")
        return both

    def check_tell(self, desk, plain, line):
        """What came of a line, held against the plain desk; nothing changes where an error is raised."""
        kept, past = dict(desk.kept), list(desk.past)
        expected = outcome(plain, line)
        found = outcome(desk, line)
        self.assertEqual(found, expected, repr(line))
        self.assertEqual(desk.undoable(), len(plain.past))
        self.assertEqual(desk.tell("names"), plain.tell("names"))
        if isinstance(found, tuple):
            self.assertEqual((desk.kept, desk.past), (kept, past))
        else:
            self.assertIs(type(found), str)
        return found

    def check_error(self, desk, line, error, field=None):
        with self.assertRaises(error, msg=line) as caught:
            desk.tell(line)
        self.assertIs(type(caught.exception), error)
        self.assertEqual(list(vars(caught.exception).values()), [] if field is None else [field], line)


class Answers(DeskTests):
    """Point 13.1: each line in its right form."""

    def test_ordinary(self):
        desk = Desk()
        self.assertEqual(desk.tell("names"), "none")
        self.assertEqual(desk.tell("program r steps 2|need 0 1 0|before 1 0 2|"), "ok")
        for line, answer in (
            ("names", "r"), ("cells r", "2"), ("wanted r", "2"), ("least r 0 1", "0"), ("least r 1 0", "2"),
            ("ahead r 0 1", "2"), ("ahead r 1 0", "0"), ("clash r 0 1 0 2", "clash"), ("clash r 0 1 0 3", "first"),
            ("clash r 0 3 0 1", "second"), ("order r 0 0", "2"), ("order r 0 1 0 1", "0"), ("order r -", "0"),
            ("followed r 0:2", "yes"), ("followed r 0:999999999", "yes"), ("followed r 0:1", "no"), ("followed r -", "no"),
            ("table r row 0 1|", "right"), ("table r row 0|", "wrong"), ("table r row 7 3 999999999|", "right"),
            ("orders r 3,3", "4"), ("orders r 0,0", "1"), ("orders r 0,1", "0"), ("pace r 3,5", "5/1"),
            ("short r", "1"), ("tight r", "before 0 need 0"),
        ):
            self.assertEqual(desk.tell(line), answer, line)

    def test_none_and_endless(self):
        desk = Desk()
        desk.tell("program q steps 2|need 0 1 0|")
        desk.tell("program bare steps 2|before 0 1 1|")
        for line, answer in (
            ("cells q", "none"), ("wanted q", "endless"), ("least q 1 0", "none"), ("ahead q 0 1", "none"),
            ("short q", "1"), ("tight q", "need 0"), ("cells bare", "0"), ("wanted bare", "0"), ("tight bare", "none"),
            ("short bare", "0"), ("followed bare -", "yes"), ("names", "bare q"),
        ):
            self.assertEqual(desk.tell(line), answer, line)

    def test_against_the_functions(self):
        programs = dict(zip("abcdefghij", list(NAMED) + drawn_programs(241, 2, 4, 5, 3)))
        desk, plain = self.desk_with(programs)
        right = 0
        for name, program in programs.items():
            for line in right_lines(name, program):
                if line.split(" ")[0] not in ("program", "drop", "undo"):
                    right += isinstance(self.check_tell(desk, plain, line), str)
        self.assertGreater(right, 200)

    def test_names_ascend(self):
        desk = Desk()
        for name in ("b", "abc", "zzzzzzzz", "a", "ab"):
            desk.tell(f"program {name} steps 1|")
        self.assertEqual(desk.tell("names"), "a ab abc b zzzzzzzz")

    def test_pace_that_is_no_integer(self):
        desk = Desk()
        desk.tell("program p steps 3|need 0 1 0|need 1 2 1|before 2 0 1|")
        self.assertEqual(desk.tell("pace p 1,2,2"), "5/2")

    def test_a_great_program(self):
        desk = Desk()
        desk.tell("program great " + barred(program_text(GREAT)))
        self.assertEqual(desk.tell("cells great"), str(least_cells(GREAT)))
        self.assertEqual(desk.tell("table great " + "row 0|" * 7), "wrong")
        self.assertEqual(desk.tell("order great " + order_text(drawn_order(GREAT, [5] * 300))), str(
            len(wanted(GREAT, drawn_order(GREAT, [5] * 300)))))


class Forms(DeskTests):
    """Point 13.2: NoLine for what has none of the forms, and for nothing else."""

    def spoiled_lines(self, line):
        words = line.split(" ")
        found = [line, "", " ", "\n", line + "\n", "\n" + line, line.upper(), line.capitalize(), " " + line, line + " ",
                 line.replace(" ", "  "), line.replace(" ", "\t"), line.replace(" ", ""), line + "|", line + " 0"]
        for place, word in enumerate(words):
            found.append(" ".join(words[:place] + words[place + 1:]))
            found.append(" ".join(words[:place] + [word] + words[place:]))
            for other in ("x", "0", "", "cells", "undo", "-1", word.upper(), word + "s"):
                found.append(" ".join(words[:place] + [other] + words[place + 1:]))
                found.append(" ".join(words[:place] + [other] + words[place:]))
            found.append(" ".join(words[:place]) + "  " + " ".join(words[place:]))
        for match in re.finditer("[0-9]+", line):
            for other in ("-1", "+1", "01", "00", "123456789", "1234567890", "", "1.0", "x", "\u0661", " 0"):
                found.append(line[:match.start()] + other + line[match.end():])
        for place in range(len(line) + 1):
            for sign in "\n |,":
                found.append(line[:place] + sign + line[place:])
        return found

    def test_spoiled_lines(self):
        seen = {}
        for program in (R, BARE):
            desk, plain = self.desk_with({"a": program, "ab": Q})
            for right in right_lines("a", program):
                for line in self.spoiled_lines(right):
                    found = self.check_tell(desk, plain, line)
                    kind = found if isinstance(found, str) else found[0]
                    seen[kind] = seen.get(kind, 0) + 1
                    if not FORMS.fullmatch(line):
                        self.assertEqual(found, (NoLine, ()))
                    else:
                        self.assertNotEqual(found, (NoLine, ()))
                    if "a" not in desk.kept or desk.kept["a"] != program or desk.undoable() != 2:
                        desk, plain = self.desk_with({"a": program, "ab": Q})
        for kind in (NoLine, BadText, NoName, NoStep, NoValue, NoOrder, NoTable, NoCounts, NoTimes, "ok", "yes", "no"):
            self.assertGreater(seen[kind], 5, kind)

    def test_names(self):
        desk = Desk()
        for name in ("", "abcdefghi", "A", "aB", "a1", "1", "a_", "a-b", "a.b", "\u00e4", "a\t", "|", "a,b", "{", "`", "~"):
            for line in (f"program {name} steps 1|", f"cells {name}", f"least {name} 0 0", f"orders {name} 1",
                         f"order {name} -", f"drop {name}"):
                self.check_error(desk, line, NoLine)
        for name in ("a", "z", "abcdefgh", "names", "undo", "program", "zzzzzzzz"):
            self.check_error(desk, f"cells {name}", NoName, name)
            self.assertEqual(desk.tell(f"program {name} steps 1|"), "ok")
            self.assertEqual(desk.tell(f"cells {name}"), "0")

    def test_no_string(self):
        desk = Desk()
        for thing in odd_things() + [b"names", ["names"], ("names",), {"names": 1}, None, 0]:
            if not isinstance(thing, str):
                self.check_error(desk, thing, NoLine)
        for thing in odd_things():
            if isinstance(thing, str):
                self.check_error(desk, thing, NoLine)

    def test_line_feeds(self):
        desk = Desk()
        for line in ("names\n", "\nnames", "undo\n", "program a steps 1\n", "program a steps 1|\n", "program a \nsteps 1|",
                     "order a -\n", "table a row 0\n", "program\na steps 1|", "\n"):
            self.check_error(desk, line, NoLine)

    def test_texts_of_blanks(self):
        """All that stands behind the blank behind the name is the text, so blanks there are signs of it."""
        desk = Desk()
        desk.tell("program a steps 2|need 0 1 0|")
        for line in ("program a", "program a ", "order a", "order a ", "followed a", "followed a ", "table a", "table a "):
            self.check_error(desk, line, NoLine)
        for line in ("program a  ", "program a  steps 1|", "program a steps 1| ", "program b |", "program a ||"):
            self.check_error(desk, line, BadText, 2 if line.endswith("| ") else 1)
        for line in ("order a  ", "order a  -", "order a 0 ", "order a  0", "order a 0  1", "order a |", "followed a  ",
                     "followed a 0:1 ", "followed a  0:1", "table a  ", "table a  row 0|", "table a |", "table a row 0"):
            self.check_error(desk, line, BadText, 1)
        self.check_error(desk, "table a row 0|| ", BadText, 2)
        self.check_error(desk, "table a row 0| ", BadText, 2)


class Errors(DeskTests):
    """Point 13.2: the errors in their order."""

    def setUp(self):
        self.desk = Desk()
        self.desk.tell("program a steps 2|need 0 1 0|before 1 0 2|")
        self.desk.tell("program full " + barred(program_text(Program(12, tuple(
            (one, other, 1) for one in range(6) for other in range(6)), ()))))

    def test_texts_of_programs(self):
        for name in ("a", "b"):
            self.check_error(self.desk, f"program {name} steps 2", BadText, 1)
            self.check_error(self.desk, f"program {name} steps 2|need 0 1|", BadText, 2)
            self.check_error(self.desk, f"program {name} steps 2|need 0 1 0", BadText, 2)
            self.check_error(self.desk, f"program {name} steps 2|before 0 1 0|need 0 1 0|", BadText, 3)
            self.check_error(self.desk, f"program {name} steps 0|", BadProgram, "steps")
            self.check_error(self.desk, f"program {name} steps 2|need 0 2 0|", BadProgram, "needs")
            self.check_error(self.desk, f"program {name} steps 2|before 0 1 7|", BadProgram, "befores")
            self.check_error(self.desk, f"program {name} steps 1|need 0 0 0|", Stuck, (("need", 0),))
        self.assertEqual(self.desk.tell("names"), "a full")
        self.assertEqual((self.desk.tell("cells a"), self.desk.undoable()), ("2", 2))

    def test_no_name_is_ahead_of_what_the_functions_raise(self):
        for line in (
            "drop b", "cells b", "wanted b", "least b 9 9", "ahead b 9 9", "clash b 9 0 9 0", "order b x", "order b 9",
            "followed b x", "table b x", "table b row|", "orders b 99", "pace b 0", "short b", "tight b",
        ):
            self.check_error(self.desk, line, NoName, "b")
        for line in ("least b 9", "orders b x", "order b", "cells b 0", "clash b 0 0 0"):
            self.check_error(self.desk, line, NoLine)

    def test_what_the_functions_raise(self):
        for line, error, field in (
            ("least a 0 2", NoStep, None), ("least a 2 0", NoStep, None), ("ahead a 0 999999999", NoStep, None),
            ("clash a 0 0 0 1", NoValue, None), ("clash a 0 1 0 0", NoValue, None), ("clash a 0 1 0 1", NoValue, None),
            ("clash a 1 1 0 1", NoValue, None), ("clash a 0 1 2 1", NoValue, None), ("order a 1", NoOrder, None),
            ("order a 2", NoOrder, None), ("order a 0 0 0", NoOrder, None), ("table a row 0|row 0|", NoTable, None),
            ("table a " + "row" + " 0" * 1001 + "|", NoTable, None), ("orders a 1", NoCounts, None),
            ("orders a 1,1,1", NoCounts, None), ("orders a 61,1", NoCounts, None), ("pace a 0,1", NoTimes, None),
            ("pace a 100,1", NoTimes, None), ("pace a 1", NoTimes, None), ("short full", TooMany, 4),
            ("wanted full", TooMany, 4000), ("orders full " + ",".join(["3"] * 12), TooMany, 20000),
            ("order a x", BadText, 1), ("followed a 0", BadText, 1), ("table a row 0", BadText, 1),
            ("table a row 0|row|", BadText, 2),
        ):
            self.check_error(self.desk, line, error, field)
            self.assertEqual((self.desk.tell("names"), self.desk.undoable()), ("a full", 2))
        self.assertEqual(self.desk.tell("followed a 9:9"), "no")


class Undo(DeskTests):
    """Point 13.1: undo, of all that it takes back."""

    def test_program_and_drop(self):
        desk = Desk()
        self.check_error(desk, "undo", NothingDone)
        self.assertEqual(desk.undoable(), 0)
        desk.tell("program a steps 2|need 0 1 0|before 1 0 2|")
        desk.tell("program a steps 2|need 0 1 0|before 1 0 5|")
        desk.tell("program b steps 1|")
        desk.tell("drop a")
        desk.tell("program a steps 2|need 0 1 0|before 1 0 6|")
        self.assertEqual(desk.undoable(), 5)
        self.assertEqual(desk.tell("cells a"), "6")
        self.assertEqual(desk.tell("undo"), "ok")
        self.assertEqual(desk.tell("names"), "b")
        self.check_error(desk, "cells a", NoName, "a")
        self.assertEqual(desk.tell("undo"), "ok")
        self.assertEqual((desk.tell("names"), desk.tell("cells a"), desk.undoable()), ("a b", "5", 3))
        desk.tell("undo")
        self.assertEqual((desk.tell("names"), desk.tell("cells a"), desk.undoable()), ("a", "5", 2))
        desk.tell("undo")
        self.assertEqual((desk.tell("names"), desk.tell("cells a"), desk.undoable()), ("a", "2", 1))
        desk.tell("undo")
        self.assertEqual((desk.tell("names"), desk.undoable()), ("none", 0))
        for _ in range(2):
            self.check_error(desk, "undo", NothingDone)

    def test_other_lines_are_not_taken_back(self):
        desk = Desk()
        desk.tell("program a steps 1|")
        for line in ("names", "cells a", "orders a 1", "order a -"):
            desk.tell(line)
        for line in ("x", "drop b", "program b steps 0|", "program a steps 1"):
            with self.assertRaises(CellError):
                desk.tell(line)
        self.assertEqual(desk.undoable(), 1)
        desk.tell("undo")
        self.assertEqual(desk.tell("names"), "none")

    def test_on_from_there(self):
        desk = Desk()
        desk.tell("program a steps 1|")
        desk.tell("undo")
        desk.tell("program b steps 1|")
        self.assertEqual(desk.undoable(), 1)
        desk.tell("undo")
        self.assertEqual(desk.tell("names"), "none")
        self.check_error(desk, "undo", NothingDone)

    def test_two_desks_beside_one_another(self):
        one, other = Desk(), Desk()
        one.tell("program a steps 2|need 0 1 0|before 1 0 2|")
        self.assertEqual((one.tell("names"), other.tell("names")), ("a", "none"))
        self.check_error(other, "undo", NothingDone)
        other.tell("program a steps 2|need 0 1 0|before 1 0 3|")
        other.tell("drop a")
        self.assertEqual((one.tell("cells a"), one.undoable(), other.undoable()), ("2", 1, 2))
        one.tell("undo")
        other.tell("undo")
        self.assertEqual((one.tell("names"), other.tell("cells a")), ("none", "3"))

    def test_drawn_lines(self):
        source = random.Random(242)
        seen = {}
        for _ in range(40):
            desk, plain = Desk(), PlainDesk()
            programs = [source.choice((P, Q, R, T, BARE, LONE, FAR, LOOSE)) for _ in range(3)]
            lines = [line for name in "abc" for program in programs for line in right_lines(name, program)]
            for _ in range(60):
                line = source.choice(lines + ["undo"] * 30 + ["names"] + lines[:1] * 20)
                found = self.check_tell(desk, plain, line)
                word = line.split(" ")[0]
                seen[word, isinstance(found, str)] = seen.get((word, isinstance(found, str)), 0) + 1
        for word in ("program", "drop", "undo", "cells", "order", "table", "orders", "pace", "clash", "least"):
            self.assertGreater(seen[word, True], 3, word)
        self.assertGreater(seen["undo", False], 10)

    def test_equal_to_nothing_else(self):
        desk = Desk()
        for thing in odd_things() + [Desk()]:
            self.assertFalse(desk == thing)


if __name__ == "__main__":
    unittest.main()
