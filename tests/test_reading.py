import random
import re
import unittest

from aheadcells.errors import BadProgram, BadText, CellError, Stuck
from aheadcells.followings import following
from aheadcells.joining import side_by_side, unrolled
from aheadcells.paces import waiting
from aheadcells.programs import Program
from aheadcells.reading import read_following, read_order, read_program, read_table
from aheadcells.tables import table_of
from aheadcells.texts import following_text, order_text, program_text, table_text
from tests import reference
from tests.samples import (
    BARE, FAR, GREAT, LONE, NAMED, P, Q, R, T, bound_program, drawn_programs, odd_things,
)

NUMBER = "(0|[1-9][0-9]{0,8})"
STEPS = re.compile(f"steps {NUMBER}")
LINK = re.compile(f"(need|before) {NUMBER} {NUMBER} {NUMBER}")
ROW = re.compile(f"row( {NUMBER})+")
ORDER = re.compile(f"{NUMBER}( {NUMBER})*")
FOLLOWING = re.compile(f"{NUMBER}:{NUMBER}( {NUMBER}:{NUMBER})*")

# Each of them is put in, and put in the place of another sign.
SIGNS = "0123456789 -+:|\nasdxS.,_\t\r\x00"


class Bad(Exception):
    """What a plain reading says of a text that is none: the line."""


def closed_lines(text):
    """The lines of a text that are closed by a line feed, and what stands behind the last one."""
    *lines, rest = text.split("\n")
    return lines, rest


def numbers_of(text):
    return tuple(int(word) for word in re.findall("[0-9]+", text))


def plain_program(text):
    """The steps, needs and befores of a text, or the line that is bad (12.1)."""
    lines, rest = closed_lines(text)
    rows = {"need": [], "before": []}
    for number, line in enumerate(lines, 1):
        if number == 1:
            if not STEPS.fullmatch(line):
                raise Bad(1)
            steps = numbers_of(line)[0]
            continue
        if not LINK.fullmatch(line) or line.startswith("need") and rows["before"]:
            raise Bad(number)
        rows[line.split(" ")[0]].append(numbers_of(line))
    if not lines or rest:
        raise Bad(text.count("\n") + 1)
    return steps, tuple(rows["need"]), tuple(rows["before"])


def plain_order(text):
    if text == "-":
        return ()
    if not ORDER.fullmatch(text):
        raise Bad(1)
    return numbers_of(text)


def plain_following(text):
    if text == "-":
        return ()
    if not FOLLOWING.fullmatch(text):
        raise Bad(1)
    return tuple(numbers_of(word) for word in text.split(" "))


def plain_table(text):
    lines, rest = closed_lines(text)
    for number, line in enumerate(lines, 1):
        if not ROW.fullmatch(line):
            raise Bad(number)
    if rest:
        raise Bad(text.count("\n") + 1)
    return tuple(numbers_of(line) for line in lines)


def exchanged(parts):
    """The same parts with one left out, doubled or exchanged with another one, or with the next part put in twice."""
    found = []
    for place, part in enumerate(parts):
        found.append(parts[:place] + parts[place + 1:])
        found.append(parts[:place] + [part] + parts[place:])
        for other in range(place):
            row = list(parts)
            row[place], row[other] = row[other], row[place]
            found.append(row)
    return found


def numbers_changed(text):
    """The same text with other forms of each of its numbers."""
    found = []
    for match in re.finditer("[0-9]+", text):
        number = match.group()
        others = [
            "-" + number, "+" + number, "0" + number, "00", "00" + number, number + "0", number + ".0", number + "_0",
            "123456789", "999999999", "1234567890", "1000000000", "0123456789", "000000001", "0", "1", "6", "7", "12",
            "13", "", "x", "0x1", "1e3", " " + number, number + " ", "\u0661", "\u00b2", str(10 ** 39), "9" * 5000,
        ]
        found.extend(text[:match.start()] + other + text[match.end():] for other in others)
    return found


def words_changed(text):
    """The same text with other words in the place of each of its words."""
    found = []
    for match in re.finditer("[a-z]+", text):
        word = match.group()
        others = [
            word.upper(), word.capitalize(), word + "s", word[1:], word + word, "steps", "need", "before", "row",
            "turn", "needs", "", " " + word, word + " ", word + "\n", "\n" + word, word + "\t",
        ]
        found.extend(text[:match.start()] + other + text[match.end():] for other in others)
    return found


def changed(text):
    """Texts that are as this one but at one place."""
    found = [text, "", "-", "\n", "\n\n\n", text + text, text + "\n", "\n" + text, text + "\n\n", text + "x", text + " ",
             text[:-1], text[1:], text.upper(), text.replace("\n", ""), text.replace("\n", "\r\n"),
             text.replace(" ", "  "), text.replace("\n", " "), text.replace(" ", "")]
    for place in range(len(text) + 1):
        found.append(text[:place] + text[place + 1:])
        found.append(text[:place] + text[place:place + 1] + text[place:])
        for sign in SIGNS:
            found.append(text[:place] + sign + text[place:])
            found.append(text[:place] + sign + text[place + 1:])
    lines = text.split("\n")
    found.extend("\n".join(row) for row in exchanged(lines))
    for line in ("", " ", "steps 2", "need 0 1 1", "before 0 1 1", "row 0", "need 0 1", "before 0 1 1 1", "0", "-"):
        found.extend("\n".join(lines[:place] + [line] + lines[place:]) for place in range(len(lines) + 1))
    for place, line in enumerate(lines):
        for words in exchanged(line.split(" ")):
            found.append("\n".join(lines[:place] + [" ".join(words)] + lines[place + 1:]))
    return found + numbers_changed(text) + words_changed(text)


class Reading(unittest.TestCase):
    """What the tests of points 12.1 and 12.2 have in common."""

    def check(self, read, plain, text):
        """Whether the text was read; it is held against a plain reading."""
        try:
            expected = plain(text)
        except Bad as bad:
            with self.assertRaises(BadText, msg=repr(text)) as caught:
                read(text)
            self.assertIs(type(caught.exception), BadText)
            self.assertEqual(caught.exception.line, bad.args[0], repr(text))
            return False
        found = read(text)
        self.assertIs(type(found), tuple)
        self.assertEqual(found, expected, repr(text))
        return True

    def check_all(self, read, plain, texts):
        seen = {True: 0, False: 0}
        for text in texts:
            for other in changed(text):
                seen[self.check(read, plain, other)] += 1
        self.assertGreater(seen[True], 20)
        self.assertGreater(seen[False], 200)

    def check_no_strings(self, read):
        for thing in odd_things() + [["steps 1\n"], ("0",), b"0", b"steps 1\n", b"-", bytearray(b"row 0\n"), P, 0, None]:
            if isinstance(thing, str):
                continue
            with self.assertRaises(BadText) as caught:
                read(thing)
            self.assertEqual(caught.exception.line, 0)

    def check_odd_strings(self, read, plain):
        for thing in odd_things():
            if isinstance(thing, str):
                self.check(read, plain, thing)


class Programs(Reading):
    """Point 12.1: read_program."""

    def check_program(self, text):
        """What came of it: "text", a part of a program, "stuck" or "read"."""
        try:
            steps, needs, befores = plain_program(text)
        except Bad as bad:
            with self.assertRaises(BadText, msg=repr(text)) as caught:
                read_program(text)
            self.assertIs(type(caught.exception), BadText)
            self.assertEqual(caught.exception.line, bad.args[0], repr(text))
            return "text"
        part = self.bad_part(steps, needs, befores)
        try:
            found = read_program(text)
        except BadProgram as error:
            self.assertEqual(error.part, part, repr(text))
            return part
        except Stuck as error:
            self.assertIsNone(part)
            self.assertTrue(reference.is_zero_ring(needs, befores, error.ring))
            return "stuck"
        self.assertIsNone(part)
        self.assertIs(type(found), Program)
        self.assertEqual((found.steps, found.needs, found.befores), (steps, needs, befores))
        return "read"

    def bad_part(self, steps, needs, befores):
        """The first part of a program that is not as told in 1.1, or None."""
        if not 1 <= steps <= 12:
            return "steps"
        for word, row in (("needs", needs), ("befores", befores)):
            right = all(one < steps and other < steps and rounds <= 6 for one, other, rounds in row)
            if not right or len(row) > 40 or len(set(row)) < len(row):
                return word
        return None

    def test_ordinary(self):
        self.assertEqual(read_program("steps 2\nneed 0 1 0\nbefore 1 0 2\n"), R)
        self.assertEqual(read_program("steps 3\nneed 0 1 0\nneed 1 2 0\nneed 2 0 1\n"), P)
        self.assertEqual(read_program("steps 2\nbefore 0 1 1\n"), BARE)
        self.assertEqual(read_program("steps 1\n"), Program(1, (), ()))

    def test_what_was_written_is_read_back(self):
        source = random.Random(201)
        bound = [bound_program(source, 12, 30, 6) for _ in range(10)]
        for program in list(NAMED) + [GREAT] + bound + drawn_programs(202, 100, 6, 8, 6):
            found = read_program(program_text(program))
            self.assertIs(type(found), Program)
            self.assertEqual(found, program)
            self.assertEqual(program_text(found), program_text(program))

    def test_changed_at_one_place(self):
        seen = {}
        for program in (R, BARE, Program(1, (), ()), LONE, FAR):
            for text in changed(program_text(program)):
                kind = self.check_program(text)
                seen[kind] = seen.get(kind, 0) + 1
        for kind in ("text", "steps", "needs", "befores", "stuck", "read"):
            self.assertGreater(seen[kind], 5, kind)

    def test_drawn_texts(self):
        source = random.Random(203)
        seen = {}
        parts = ["steps 2\n", "steps 2", "need 0 1 0\n", "need 1 0 0\n", "before 1 0 1\n", "before 1 0 0\n", "need", "\n",
                 "before 0 2 1\n", " ", "steps 13\n", "need 0 0 7\n", "steps 02\n", "need 0 1 1\n", "need 0 1 0\n"]
        for _ in range(6000):
            text = "".join(source.choice(parts) for _ in range(source.randint(0, 4)))
            for start in ("", "steps 2\n"):
                kind = self.check_program(start + text)
                seen[kind] = seen.get(kind, 0) + 1
        self.assertGreater(min(seen.values()), 20)
        self.assertEqual(len(seen), 6)

    def test_lines(self):
        for text, line in (
            ("", 1), ("\n", 1), ("\n\n\n", 1), ("steps 2", 1), ("steps 2\n\n", 2), ("steps 2\n\n\n", 2),
            ("need 0 1 0\n", 1), ("before 0 1 0\n", 1), ("steps 2\nsteps 2\n", 2), ("steps 2\nneed 0 1 0", 2),
            ("steps 2\nneed 0 1 0\n ", 3), ("steps 2\nneed 0 1 0\nx\n", 3), (" steps 2\n", 1), ("steps 2 \n", 1),
            ("steps  2\n", 1), ("steps\n", 1), ("steps 2 2\n", 1), ("Steps 2\n", 1), ("steps 2\nneed 0 1\n", 2),
            ("steps 2\nneed 0 1 0 0\n", 2), ("steps 2\nNEED 0 1 0\n", 2), ("steps 2\nturn 0\n", 2), ("-", 1),
            ("steps 2\nneed 0 1 -1\n", 2), ("steps 2\nneed 0 1 +1\n", 2), ("steps 2\nneed 0 1 01\n", 2),
            ("steps 2\nneed 0 1 1234567890\nneed\n", 2), ("steps 1234567890\n", 1), ("steps 2\r\n", 1),
            ("x\ny\nz", 1), ("steps 2\ny\nz", 2), ("steps 2\n\nz", 2), ("x", 1), ("steps 2\nneed 0 1 0\nneed 1 0 1", 3),
        ):
            with self.assertRaises(BadText, msg=text) as caught:
                read_program(text)
            self.assertEqual(caught.exception.line, line, text)

    def test_befores_ahead_of_needs(self):
        with self.assertRaises(BadText) as caught:
            read_program("steps 2\nbefore 1 0 2\nneed 0 1 0\n")
        self.assertEqual(caught.exception.line, 3)
        with self.assertRaises(BadText) as caught:
            read_program("steps 2\nneed 0 1 0\nbefore 1 0 2\nbefore 1 0 3\nneed 0 1 1\nneed x\n")
        self.assertEqual(caught.exception.line, 5)
        self.assertEqual(read_program("steps 2\nneed 0 1 0\nneed 0 1 1\nbefore 1 0 2\nbefore 1 0 3\n").needs, (
            (0, 1, 0), (0, 1, 1)))

    def test_bad_programs(self):
        for text, part in (
            ("steps 0\n", "steps"), ("steps 13\n", "steps"), ("steps 999999999\n", "steps"),
            ("steps 2\nneed 0 2 0\n", "needs"), ("steps 2\nneed 2 0 0\n", "needs"), ("steps 2\nneed 0 1 7\n", "needs"),
            ("steps 2\nneed 0 1 0\nneed 0 1 0\n", "needs"), ("steps 2\nbefore 0 2 0\n", "befores"),
            ("steps 2\nbefore 0 1 7\n", "befores"), ("steps 2\nbefore 0 1 0\nbefore 0 1 0\n", "befores"),
            ("steps 2\nneed 0 1 999999999\n", "needs"), ("steps 0\nneed 0 1 7\nbefore 0 1 7\n", "steps"),
            ("steps 2\nneed 0 1 7\nbefore 0 1 7\n", "needs"),
        ):
            with self.assertRaises(BadProgram, msg=text) as caught:
                read_program(text)
            self.assertEqual(caught.exception.part, part, text)
        full = "".join(f"need {one} {other} 1\n" for one in range(7) for other in range(7))
        many = "\n".join(full.split("\n")[:40]) + "\n"
        self.assertEqual(len(read_program("steps 7\n" + many).needs), 40)
        with self.assertRaises(BadProgram) as caught:
            read_program("steps 7\n" + full)
        self.assertEqual(caught.exception.part, "needs")

    def test_stuck(self):
        with self.assertRaises(Stuck) as caught:
            read_program("steps 2\nneed 0 1 0\nbefore 1 1 1\nbefore 1 0 0\n")
        self.assertEqual(sorted(caught.exception.ring), [("before", 1), ("need", 0)])
        with self.assertRaises(Stuck) as caught:
            read_program("steps 1\nneed 0 0 0\n")
        self.assertEqual(caught.exception.ring, (("need", 0),))

    def test_order_of_errors(self):
        # Each text has all that is told later, too.
        stuck = "need 0 1 0\nneed 1 0 0\n"
        texts = (
            (None, BadText, 0), ("steps 2\n" + stuck + "need 9 9 9\nx", BadText, 5),
            ("steps 2\n" + stuck + "need\nneed 9 9 9\n", BadText, 4), ("steps 2\n" + stuck + "need 9 9 9\n", BadProgram, 0),
            ("steps 2\n" + stuck, Stuck, 0),
        )
        for text, error, line in texts:
            with self.assertRaises(error) as caught:
                read_program(text)
            self.assertIs(type(caught.exception), error)
            if error is BadText:
                self.assertEqual(caught.exception.line, line)

    def test_of_programs_beyond_the_bounds(self):
        """What is read is constructed, so the bounds hold for it; no number has more than nine figures."""
        for program in (side_by_side(GREAT, P), unrolled(T, 6)):
            with self.assertRaises(BadProgram) as caught:
                read_program(program_text(program))
            self.assertEqual(caught.exception.part, "steps")
        with self.assertRaises(BadProgram) as caught:
            read_program(program_text(waiting(Q, ((0, 7),))))
        self.assertEqual(caught.exception.part, "befores")
        with self.assertRaises(BadText) as caught:
            read_program(program_text(waiting(Q, ((0, 10 ** 39),))))
        self.assertEqual(caught.exception.line, 3)
        self.assertEqual(read_program(program_text(unrolled(R, 3))), unrolled(R, 3))

    def test_no_string(self):
        self.check_no_strings(read_program)

    def test_odd_strings(self):
        for thing in odd_things():
            if isinstance(thing, str):
                self.check_program(thing)

    def test_long_texts(self):
        text = "steps 2\n" + "need 0 1 0\n" * 5000
        with self.assertRaises(BadProgram):
            read_program(text)
        with self.assertRaises(BadText) as caught:
            read_program(text + "need 0 1 0")
        self.assertEqual(caught.exception.line, 5002)

    def test_equal_calls(self):
        text = program_text(FAR)
        one, other = read_program(text), read_program(text)
        self.assertEqual(one, other)
        self.assertIsNot(one, other)


class Orders(Reading):
    """Point 12.1: read_order."""

    def test_ordinary(self):
        self.assertEqual(read_order("-"), ())
        self.assertEqual(read_order("0"), (0,))
        self.assertEqual(read_order("0 11 3"), (0, 11, 3))
        self.assertEqual(read_order("999999999 0"), (999999999, 0))

    def test_what_was_written_is_read_back(self):
        source = random.Random(204)
        for _ in range(200):
            order = tuple(source.randrange(12) for _ in range(source.randint(0, 400)))
            self.assertEqual(read_order(order_text(order)), order)

    def test_changed_at_one_place(self):
        self.check_all(read_order, plain_order, ("-", "0", "0 11 3", "10 0 0 123456789"))

    def test_bad(self):
        for text in ("", " ", "--", "- ", " -", "-1", "0 -", "- 0", "0\n", "\n0", "0 1\n", "0  1", " 0", "0 ", "00", "01",
                     "+1", "1234567890", "0,1", "0|1", "0\t1", "0:1", "x", "0 x", "order", "\n", "\n\n"):
            with self.assertRaises(BadText, msg=text) as caught:
                read_order(text)
            self.assertEqual(caught.exception.line, 1, text)

    def test_no_string(self):
        self.check_no_strings(read_order)
        self.check_odd_strings(read_order, plain_order)


class Followings(Reading):
    """Point 12.2: read_following."""

    def test_ordinary(self):
        self.assertEqual(read_following("-"), ())
        self.assertEqual(read_following("0:2"), ((0, 2),))
        self.assertEqual(read_following("1:0 2:0 0:1"), following(P))
        self.assertEqual(read_following("999999999:999999999 0:0"), ((999999999, 999999999), (0, 0)))

    def test_what_was_written_is_read_back(self):
        source = random.Random(205)
        for _ in range(200):
            thing = tuple((source.randrange(12), source.randrange(10 ** 9)) for _ in range(source.randint(0, 12)))
            self.assertEqual(read_following(following_text(thing)), thing)
        for program in (P, R, T, FAR, GREAT, unrolled(T, 4)):
            self.assertEqual(read_following(following_text(following(program))), following(program))

    def test_changed_at_one_place(self):
        self.check_all(read_following, plain_following, ("-", "0:2", "1:0 2:10 11:123456789"))

    def test_bad(self):
        for text in ("", " ", ":", "0", "0:", ":0", "0:1:2", "0::1", "0: 1", "0 :1", "0:1 ", " 0:1", "0:1  1:0", "0:01",
                     "00:1", "0:-1", "-1:0", "+0:1", "0:1234567890", "0:1\n", "0:1,1:0", "- 0:1", "0:1 -", "x:1", "\n"):
            with self.assertRaises(BadText, msg=text) as caught:
                read_following(text)
            self.assertEqual(caught.exception.line, 1, text)

    def test_no_string(self):
        self.check_no_strings(read_following)
        self.check_odd_strings(read_following, plain_following)


class Tables(Reading):
    """Point 12.2: read_table."""

    def test_ordinary(self):
        self.assertEqual(read_table(""), ())
        self.assertEqual(read_table("row 0\n"), ((0,),))
        self.assertEqual(read_table("row 0 1\nrow 12\nrow 3 2 1\n"), ((0, 1), (12,), (3, 2, 1)))
        self.assertEqual(read_table("row 999999999\n"), ((999999999,),))

    def test_what_was_written_is_read_back(self):
        source = random.Random(206)
        for most in (3, 3, 3, 1200):
            for _ in range(50 if most == 3 else 2):
                table = tuple(
                    tuple(source.randrange(10 ** 9) for _ in range(source.randint(1, most)))
                    for _ in range(source.randint(0, 12))
                )
                self.assertEqual(read_table(table_text(table)), table)
        for program in (P, R, T, FAR, GREAT, unrolled(T, 4), BARE):
            table = table_of(program, following(program))
            self.assertEqual(read_table(table_text(table)), table)

    def test_changed_at_one_place(self):
        self.check_all(read_table, plain_table, ("", "row 0\n", "row 0 1\nrow 12\nrow 3 2 123456789\n"))

    def test_lines(self):
        for text, line in (
            ("\n", 1), ("\n\n", 1), ("row 0", 1), ("row\n", 1), ("row \n", 1), ("row 0\n\n", 2), ("row 0\nrow 1", 2),
            ("row 0\nrow\nx", 2), ("row 0\nrow 1\nx", 3), ("row 0 \n", 1), (" row 0\n", 1), ("row  0\n", 1),
            ("rows 0\n", 1), ("ROW 0\n", 1), ("row 00\n", 1), ("row -1\n", 1), ("row 0\nrow 1234567890\n", 2),
            ("row 0,1\n", 1), ("0\n", 1), ("-", 1), ("-\n", 1), (" ", 1), ("row 0\n ", 2), ("row 0\r\n", 1),
        ):
            with self.assertRaises(BadText, msg=text) as caught:
                read_table(text)
            self.assertEqual(caught.exception.line, line, text)

    def test_no_string(self):
        self.check_no_strings(read_table)
        self.check_odd_strings(read_table, plain_table)


class AnyText(Reading):
    """Point 0.3: no other error than the named one."""

    def test_no_other_error(self):
        source = random.Random(207)
        for _ in range(3000):
            text = "".join(source.choice("0011 \n:-|steprowndbf") for _ in range(source.randint(0, 12)))
            for read in (read_program, read_order, read_following, read_table):
                try:
                    read(text)
                except CellError as error:
                    self.assertIn(type(error), (BadText, BadProgram, Stuck))
            self.check(read_order, plain_order, text)
            self.check(read_following, plain_following, text)
            self.check(read_table, plain_table, text)


if __name__ == "__main__":
    unittest.main()
