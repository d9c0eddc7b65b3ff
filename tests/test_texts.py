"""Texts of programs and copyings, and what is told of texts that are wrong [2, 4, 20]."""

import copy
import itertools
import random
import re
import unittest

from copyplaces.errors import ParseError
from copyplaces.programs import require_program
from copyplaces.texts import format_copying, format_program, parse_copying, parse_program
from tests.judged import LABELS, all_copyings, is_program
from tests.second import any_program, looping_program, tangled_program

EXAMPLE = (2, (("give", 0, 1, 0), ("change", 1, 0, 5), ("look", 1)))
EXAMPLE_TEXT = "names 2\ngive 0 1 0\nchange 1 0 5\nlook 1\n"
DEEP = (4, (
    ("choose", ((("give", 7, 0, 3), ("loop", (("look", 2),))), (), (("choose", ((), (("fresh", 1),))),))),
    ("loop", ()),
    ("change", 6, 3, 9),
))
DEEP_TEXT = """names 4
choose
way
  give 7 0 3
  loop
    look 2
way
way
  choose
  way
  way
    fresh 1
loop
change 6 3 9
"""
LINE = re.compile("((?:  )*)(?:(fresh|look) ([0-9])|(give|change) ([0-9]) ([0-9]) ([0-9])|(choose|loop|way))")


def nested(rows):
    """Rows of an indentation and a statement, as rows of a statement and the rows within it."""
    found = []
    for indent, row in rows:
        if indent == 0:
            found.append((row, []))
        elif not found:
            raise ValueError
        else:
            found[-1][1].append((indent - 1, row))
    return found


def block_of(rows):
    """The block of these rows; ValueError if they are none."""
    block = []
    for row, within in nested(rows):
        inner = block_of(within)
        if row == ("way",):
            if not block or block[-1][0] != "choose" or len(block[-1][1]) == 3:
                raise ValueError
            block[-1] = ("choose", block[-1][1] + (inner,))
        elif row == ("loop",):
            block.append(("loop", inner))
        elif within:
            raise ValueError
        else:
            block.append(("choose", ()) if row == ("choose",) else row)
    return tuple(block)


def whole(lines):
    """The program with these lines, or None if they are not those of one: a second telling of texts."""
    first = re.fullmatch("names ([1-4])", lines[0]) if lines else None
    found = [LINE.fullmatch(line) for line in lines[1:]]
    if not first or not all(found):
        return None
    rows = [(len(one[1]) // 2, tuple(int(part) if part.isdigit() else part for part in one[0].split()))
            for one in found]
    try:
        program = (int(first[1]), block_of(rows))
    except ValueError:
        return None
    return program if is_program(program) else None


def goes_on(lines):
    """Whether some lines behind these make a program: lines of ways are all that can be needed."""
    if not lines:
        return True
    # Each of the five blocks within one another may have a choice that still lacks one way or two.
    return any(whole(lines + [line for indent, many in zip((8, 6, 4, 2, 0), needed) for line in [" " * indent + "way"] * many])
               for needed in itertools.product((0, 1, 2), repeat=5))


def line_of(text):
    """The line that ParseError tells for the text, or None if it is that of a program."""
    parts = text.split("\n")
    lines = parts[:-1]
    for at in range(len(lines)):
        # What is behind a line that is wrong makes nothing right: look closely at the first one only.
        if whole(lines[:at + 1]) is None and not goes_on(lines[:at + 1]):
            return at
    return None if parts[-1] == "" and whole(lines) else len(lines)


class FormatTest(unittest.TestCase):
    def test_example(self):
        self.assertEqual((format_program(EXAMPLE), format_copying((0, 5))), (EXAMPLE_TEXT, "0 5"))
        self.assertEqual((format_program(program=EXAMPLE), format_copying(copying=(0, 5))), (EXAMPLE_TEXT, "0 5"))

    def test_blocks(self):
        self.assertEqual(format_program(DEEP), DEEP_TEXT)
        self.assertEqual(format_program((1, ())), "names 1\n")
        self.assertEqual(format_program((1, (("loop", (("loop", ()),)), ("choose", ((), ()))))),
                         "names 1\nloop\n  loop\nchoose\nway\nway\n")

    def test_copyings(self):
        for copying, text in (((), "none"), ((0,), "0"), ((7,), "7"), (LABELS, "0 1 2 3 4 5 6 7"), ((1, 3, 6), "1 3 6")):
            self.assertEqual(format_copying(copying), text)
            self.assertEqual(parse_copying(text), copying)

    def test_written_and_read_back(self):
        rng = random.Random(20)
        for _ in range(250):
            program = require_program(rng.choice((any_program, tangled_program, looping_program))(rng))
            kept = copy.deepcopy(program)
            text = format_program(program)
            self.assertEqual(program, kept)
            self.assertEqual(parse_program(text), program)
            self.assertEqual(whole(text.split("\n")[:-1]), program)
            self.assertEqual(text.count("\n"), len(text.split("\n")) - 1)
        for copying in all_copyings():
            text = format_copying(copying)
            self.assertEqual(parse_copying(text), copying)
            self.assertEqual(parse_copying(text=text), copying)


class ParseCopyingTest(unittest.TestCase):
    def test_wrong_ones(self):
        for text in ("", " ", "none ", " none", "None", "none\n", "none 0", "0 none", "8", "9", "-1", "+1", "00", "01", "0 01",
                     "0 0", "1 0", "0 2 1", "0  1", " 0", "0 ", "0\n", "0,1", "0\t1", "0 1 2 3 4 5 6 7 8", "01234567", "1.",
                     "\u0661", "\u00b2", "0 \u0661", "0\u00a01", "\uff11", "\n", "\n0", "()", "(0,)", "True", "0 " * 9999,
                     "0" * 20000, " " * 20000, "none" * 5000):
            with self.assertRaises(ParseError) as caught:
                parse_copying(text)
            self.assertEqual(caught.exception.line, 0, text)


class ParseProgramTest(unittest.TestCase):
    def assert_line(self, text, line, told=True):
        with self.assertRaises(ParseError) as caught:
            parse_program(text)
        self.assertEqual(repr(caught.exception.line), repr(line), text)
        if told:
            self.assertEqual(line_of(text), line, text)

    def assert_lines(self, lines, line):
        self.assert_line("".join(row + "\n" for row in lines), line)

    def test_read(self):
        self.assertEqual(parse_program(EXAMPLE_TEXT), EXAMPLE)
        self.assertEqual(parse_program(text=DEEP_TEXT), DEEP)
        self.assertEqual(parse_program("names 4\n"), (4, ()))
        self.assertEqual(parse_program("names 1\nloop\n  loop\nchoose\nway\nway\n"),
                         (1, (("loop", (("loop", ()),)), ("choose", ((), ())))))

    def test_the_first_line(self):
        for line in ("", " ", "names", "names ", "names 0", "names 5", "names 9", "names 10", "names 02", "names -1", "names +1",
                     "names 1 ", " names 1", "  names 1", "names  1", "names 1 1", "Names 1", "name 1", "names 1.", "names one",
                     "names\t1", "names 1\r", "names \u0661", "names \u00b2", "look 0", "none", "names 1 look 0", "\ufeffnames 1"):
            self.assert_lines([line], 0)
            self.assert_lines([line, "look 0"], 0)
            self.assert_line(line, 0)

    def test_texts_that_end_too_early(self):
        """The number of line ends is told, with nothing or with something behind the last one."""
        self.assert_line("", 0)
        self.assert_line("names 2", 0)
        self.assert_line("names 2\nlook 0", 1)
        self.assert_line(EXAMPLE_TEXT[:-1], 3)
        self.assert_line(EXAMPLE_TEXT + "look 1", 4)
        self.assert_line(EXAMPLE_TEXT + " ", 4)
        self.assert_line(EXAMPLE_TEXT + "?", 4)
        self.assert_line("names 2\nchoose\n", 2)
        self.assert_line("names 2\nchoose\nway\n", 3)
        self.assert_line("names 2\nchoose\nway\n  look 0\n", 4)
        self.assert_line("names 2\nchoose\nway", 2)
        self.assert_line("names 2\nchoose\nway\nway", 3)
        self.assert_line("names 2\nchoose\nway\nway\n  choose\n  way\n", 6)
        self.assertEqual(parse_program("names 2\nchoose\nway\nway\n"), (2, (("choose", ((), ())),)))

    def test_empty_lines(self):
        self.assert_line("\n", 0)
        self.assert_line("\n" + EXAMPLE_TEXT, 0)
        self.assert_line(EXAMPLE_TEXT + "\n", 4)
        self.assert_line("names 2\n\nlook 1\n", 1)
        self.assert_line("names 2\n  \nlook 1\n", 1)
        self.assert_line("\n" * 20000, 0)
        self.assert_line("names 2\n" + "\n" * 19000, 1)

    def test_statements(self):
        for line in ("fresh", "fresh 2", "fresh 0 0", "fresh  0", "fresh 0 ", " fresh 0", "fresh 00", "fresh -1", "fresh +0",
                     "fresh x", "Fresh 0", "fresh0", "fresh\t0", "fresh 0\r", "look", "look 2", "look 1 1", "look 01",
                     "look \u0661", "look \u00b9", "look \uff11", "look True", "give 0 1", "give 0 1 1", "give 8 1 0", "give 0 2 0",
                     "give 0 0 2", "give 0 1 0 0", "give 0 1  0", "give 00 1 0", "give 0, 1 0", "change 0 0", "change 8 0 5",
                     "change 0 2 5", "change 0 0 10", "change 0 0 05", "change 0 0 -5", "change 0 0 5 5", "choose 1", "choose 2",
                     "choose ", "choose\r", "chooses", "loop 0", "loop ", "loop  ", "way", "way ", "names 2", "none", "0", "?",
                     "\u00a0look 1", "look\u00a01", "\tlook 1", "\u3000look 1", "look 1\u2028", "look 1\x0b", "look 1\x0c",
                     "look 1\x85"):
            self.assert_lines(["names 2", "look 0", line, "look 0"], 2)
            self.assert_lines(["names 2", "loop", "  look 0", "  " + line], 3)
            self.assert_line("names 2\nlook 0\n" + line, 2)

    def test_names_count(self):
        self.assert_lines(["names 1", "fresh 1"], 1)
        self.assert_lines(["names 1", "give 0 0 1"], 1)
        self.assert_lines(["names 3", "fresh 2", "look 3"], 2)
        self.assertEqual(parse_program("names 4\nlook 3\n"), (4, (("look", 3),)))

    def test_indentation(self):
        for indent in (" ", "  ", "   ", "    "):
            self.assert_lines(["names 2", indent + "look 0"], 1)
            self.assert_lines(["names 2", "look 1", indent + "look 0"], 2)
        for indent in (" ", "   ", "    ", "      "):
            self.assert_lines(["names 2", "loop", indent + "look 0"], 2)
            self.assert_lines(["names 2", "choose", "way", indent + "look 0"], 3)
        self.assert_lines(["names 2", "choose", "  look 0"], 2)
        self.assert_lines(["names 2", "choose", "  way"], 2)
        self.assert_lines(["names 2", "loop", "way"], 2)
        self.assert_lines(["names 2", "loop", "  way"], 2)
        self.assert_lines(["names 2", "choose", "way", "way", "  way"], 4)
        self.assert_lines(["names 2", "loop", "  choose", "way"], 3)
        self.assert_lines(["names 2", "loop", "  choose", "    way"], 3)

    def test_ways_of_a_choice(self):
        self.assert_lines(["names 2", "choose", "look 0"], 2)
        self.assert_lines(["names 2", "choose", "choose"], 2)
        self.assert_lines(["names 2", "choose", "way", "look 0"], 3)
        self.assert_lines(["names 2", "choose", "way", "  look 0", "look 0"], 4)
        self.assert_lines(["names 2", "choose", "way", "way", "way", "way"], 5)
        self.assert_lines(["names 2", "choose", "way", "way", "look 0", "way"], 5)
        self.assert_lines(["names 2", "loop", "  choose", "  way", "look 0"], 4)
        self.assert_lines(["names 2", "choose", "way", "  choose", "  way", "way"], 5)
        self.assert_lines(["names 2", "choose", "way", "  choose", "  way", "  way", "look 0"], 6)

    def test_statements_in_a_block(self):
        self.assert_lines(["names 2"] + ["look 0"] * 9, 9)
        self.assert_lines(["names 2", "loop"] + ["  fresh 0"] * 9, 10)
        self.assert_lines(["names 2", "choose", "way"] + ["  fresh 0"] * 8 + ["way"] + ["  fresh 0"] * 9, 20)
        self.assert_lines(["names 2"] + ["loop", "  fresh 0"] * 9, 17)
        self.assertEqual(len(parse_program("names 2\n" + "look 0\n" * 8)[1]), 8)

    def test_blocks_within_one_another(self):
        """A choice or a loop in the fifth block would begin a sixth one, also an empty one."""
        loops = ["  " * k + "loop" for k in range(6)]
        self.assertEqual(len(parse_program("\n".join(["names 2"] + loops[:4]) + "\n")[1]), 1)
        self.assert_lines(["names 2"] + loops[:5], 5)
        self.assert_lines(["names 2"] + loops[:6], 5)
        self.assert_lines(["names 2"] + loops[:4] + ["  " * 4 + "fresh 0", "  " * 4 + "loop", "look 0"], 6)
        self.assert_lines(["names 2"] + loops[:4] + ["  " * 4 + "choose", "  " * 4 + "way", "  " * 4 + "way"], 5)

    def test_statements_and_spots_in_all(self):
        block = ["loop"] + ["  fresh 0"] * 8
        self.assertEqual(len(parse_program("\n".join(["names 2"] + block * 4 + ["fresh 0"] * 4) + "\n")[1]), 8)
        self.assert_lines(["names 2"] + block * 4 + ["loop", "  fresh 0", "  fresh 0", "  fresh 0", "  fresh 0"], 41)
        text = "\n".join(["names 2"] + block * 4 + ["loop", "  fresh 0", "  fresh 0", "  fresh 0"]) + "\n"
        self.assertEqual(len(parse_program(text)[1]), 5)
        self.assert_line(text + "look 0\n", 41)
        self.assert_line(text + "look 0", 41)
        spots = ["names 2", "loop"] + ["  look 0"] * 8 + ["look 0"] * 3
        self.assertEqual(len(parse_program("\n".join(spots + ["fresh 0"]) + "\n")[1]), 5)
        for line in ("look 0", "loop", "choose"):
            self.assert_lines(spots + [line], 13)
            self.assert_lines(spots + ["fresh 0", line], 14)

    def test_the_first_wrong_line_counts(self):
        self.assert_lines(["names 2", "look 5", "names", "look 0"], 1)
        self.assert_lines(["names 2", "choose", "look 5"], 2)
        self.assert_line("names 2\nlook 5\nchoose", 1)

    def test_long_texts(self):
        for text in ("look 0\n" * 2857, " " * 20000, "names 2\n" + " " * 19000, "names 2\nloop\n" + " " * 19000 + "\n",
                     "names 2\n" + "look 0 " * 2800 + "\n", "names 2\nlook " + "0" * 19000 + "\n", "x" * 20000,
                     "names " + "9" * 19000 + "\n", "\x00" * 20000, "names 2\n" + "\u00e9" * 19000 + "\n"):
            self.assert_line(text, 0 if not text.startswith("names 2\n") else 2 if "loop" in text else 1, told=False)
        self.assert_line("names 2\n" + "look 0\n" * 2800, 9, told=False)

    def test_any_changes(self):
        """A line changed, doubled, left out, moved, cut or indented otherwise; a sign put in, left out or changed."""
        rng = random.Random(200)
        wrong = 0
        for _ in range(700):
            program = rng.choice((any_program, tangled_program, looping_program))(rng)
            text = format_program((program[0], program[1][:rng.randint(1, 8)]))
            for _ in range(rng.choice((1, 1, 2))):
                text = rng.choice((self.with_line, self.with_sign))(rng, text)
            line = line_of(text)
            if line is None:
                self.assertEqual(parse_program(text), whole(text.split("\n")[:-1]), text)
            else:
                wrong += 1
                self.assert_line(text, line, told=False)
        self.assertGreater(wrong, 300)

    def with_line(self, rng, text):
        lines = text.split("\n")
        at, other = rng.randrange(len(lines)), rng.randrange(len(lines))
        line = lines[at]
        lines[at:at + 1] = rng.choice((
            [], [line, line], [line] * 9, [lines[other]], [line, lines[other]], [line[:rng.randint(0, len(line))]],
            ["  " + line], [" " + line], [line[1:]], [line[2:]], [line, ""], [line + " "],
            [line, re.match(" *", line)[0] + rng.choice(("way", "loop", "choose", "fresh 0", "look 0", "change 0 0 0"))],
            [line, re.match(" *", line)[0] + "  " + rng.choice(("way", "loop", "choose", "fresh 0", "look 0"))]))
        return "\n".join(lines)

    def with_sign(self, rng, text):
        at = rng.randint(0, len(text))
        sign = rng.choice("0123456789  \n\nwlcx-+\t\r\u0661\u00b2")
        return rng.choice((text[:at] + sign + text[at:], text[:at] + text[at + 1:], text[:at] + sign + text[at + 1:],
                           text[:at]))


if __name__ == "__main__":
    unittest.main()
