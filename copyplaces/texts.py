"""Texts of programs and of copyings, written and read [20]."""

from copyplaces.errors import ParseError
from copyplaces.forms import is_copying
from copyplaces.programs import (LEAST_CHOICES, MOST_CHOICES, MOST_DEPTH, MOST_IN_BLOCK, MOST_NAMES, MOST_SPOTS,
                                 MOST_STATEMENTS, SPOT_WORDS, blocks_in, is_number, is_statement)

PLAIN_WORDS = ("fresh", "give", "change", "look")
DIGITS = ("0", "1", "2", "3", "4", "5", "6", "7", "8", "9")
INDENT = "  "


class Reader:
    """Reads the lines of a program's text; at is the index of the line that comes next.

    A block ends at a line that is not indented as its statements are. So a line that is indented
    as nothing that may come there is met by the program's own block, or by a choice that lacks ways.
    """

    def __init__(self, lines):
        self.lines = lines
        self.at = 0
        self.names = 0
        self.statements = 0
        self.spots = 0

    def read(self):
        """Read the lines, which must be those of one program."""
        parts = self._parts(0)
        if len(parts) != 2 or parts[0] != "names" or not is_number(_read_number(parts[1]), 1, MOST_NAMES):
            raise ParseError(self.at)
        self.names = _read_number(parts[1])
        self.at += 1
        block = self._block(1)
        if self.at < len(self.lines):
            raise ParseError(self.at)
        return (self.names, block)

    def _block(self, depth):
        """Read the block, which is the one with this depth, from 1."""
        rows = []
        parts = self._parts(depth - 1)
        while parts != []:
            if len(rows) == MOST_IN_BLOCK:
                raise ParseError(self.at)
            rows.append(self._statement(parts, depth))
            parts = self._parts(depth - 1)
        return tuple(rows)

    def _statement(self, parts, depth):
        """Read the statement that begins with these parts of the next line."""
        if parts[0] in PLAIN_WORDS:
            statement = (parts[0],) + tuple([_read_number(part) for part in parts[1:]])
            if not is_statement(statement, self.names):
                raise ParseError(self.at)
            self._pass(parts[0])
            return statement
        # A block of this statement would be the next one within the others.
        if parts not in (["choose"], ["loop"]) or depth == MOST_DEPTH:
            raise ParseError(self.at)
        self._pass(parts[0])
        if parts == ["loop"]:
            return ("loop", self._block(depth + 1))
        return ("choose", self._choices(depth))

    def _pass(self, word):
        """Count the statement with this word, and go on behind the line in which it begins."""
        self.statements += 1
        if word in SPOT_WORDS:
            self.spots += 1
        if self.statements > MOST_STATEMENTS or self.spots > MOST_SPOTS:
            raise ParseError(self.at)
        self.at += 1

    def _choices(self, depth):
        """Read the ways of a choice in a block with this depth."""
        blocks = []
        while len(blocks) < MOST_CHOICES and self._parts(depth - 1) == ["way"]:
            self.at += 1
            blocks.append(self._block(depth + 1))
        if len(blocks) < LEAST_CHOICES:
            raise ParseError(self.at)
        return tuple(blocks)

    def _parts(self, indents):
        """Return the parts of the next line, [] if there is none or if it is not indented so often."""
        if self.at == len(self.lines):
            return []
        line = self.lines[self.at]
        if len(line) - len(line.lstrip(" ")) != len(INDENT) * indents:
            return []
        return line.lstrip(" ").split(" ")


def format_program(program):
    """Return the text of the program."""
    names, block = program
    return "".join([line + "\n" for line in [f"names {names}"] + _lines_of(block, "")])


def format_copying(copying):
    """Return the text of the copying."""
    if copying == ():
        return "none"
    return " ".join([str(label) for label in copying])


def parse_program(text):
    """Return the program that is written so."""
    parts = text.split("\n")
    lines = parts[:-1]
    program = Reader(lines).read()
    # Behind the last line end nothing may stand.
    if parts[-1] != "":
        raise ParseError(len(lines))
    return program


def parse_copying(text):
    """Return the copying that is written so."""
    if text == "none":
        return ()
    copying = tuple([_read_number(part) for part in text.split(" ")])
    if not is_copying(copying):
        raise ParseError(0)
    return copying


def _lines_of(block, indent):
    """Return the list of the lines of the block's statements."""
    lines = []
    for statement in block:
        if statement[0] in PLAIN_WORDS:
            lines.append(indent + " ".join([str(part) for part in statement]))
            continue
        lines.append(indent + statement[0])
        for inner in blocks_in(statement):
            if statement[0] == "choose":
                lines.append(f"{indent}way")
            lines.extend(_lines_of(inner, indent + INDENT))
    return lines


def _read_number(part):
    """Return the number that is written so, or -1, which fits nowhere, if it is none of one digit."""
    return DIGITS.index(part) if part in DIGITS else -1
