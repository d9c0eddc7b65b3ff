"""Sessions: a program and prices that are edited, with checkpoints and records [19]."""

from copyplaces.checker import first_fault
from copyplaces.claims import decide
from copyplaces.edits import with_block, within
from copyplaces.errors import (InvalidPrices, LimitExceeded, UnknownCheckpoint, UnknownLabel, UnknownPath,
                               UnknownRecord)
from copyplaces.forms import are_prices, is_price
from copyplaces.programs import MOST_LABEL, is_number, require_program

MOST_CHECKPOINTS = 8
MOST_RECORDS = 16


class Session:
    """A program and prices, what they were at checkpoints, and certificates about them."""

    def __init__(self, program, *, prices=(1, 1, 1, 1, 1, 1, 1, 1)):
        self._program = require_program(program)
        if not are_prices(prices):
            raise InvalidPrices()
        self._prices = prices
        self._checkpoints = []
        self._certificates = []

    def __len__(self):
        return len(self._certificates)

    def program(self):
        """Return the program that the session has."""
        return self._program

    def prices(self):
        """Return the prices that the session has."""
        return self._prices

    def put(self, path, statement):
        """Put the statement in the place of the one with this path, or behind the last one of a block."""
        block = within(self._program, path)
        if block is None or not is_number(path[-1], 0, len(block)):
            raise UnknownPath(path)
        self._edit(path, block[:path[-1]] + (statement,) + block[path[-1] + 1:])

    def take(self, path):
        """Take the statement with this path away."""
        block = within(self._program, path)
        if block is None or not is_number(path[-1], 0, len(block) - 1):
            raise UnknownPath(path)
        self._edit(path, block[:path[-1]] + block[path[-1] + 1:])

    def set_price(self, label, price):
        """Set the price of the label."""
        if not is_number(label, 0, MOST_LABEL):
            raise UnknownLabel(label)
        if not is_price(price):
            raise InvalidPrices()
        self._prices = self._prices[:label] + (price,) + self._prices[label + 1:]

    def checkpoint(self):
        """Keep program and prices; return the checkpoint's number."""
        if len(self._checkpoints) == MOST_CHECKPOINTS:
            raise LimitExceeded(MOST_CHECKPOINTS)
        self._checkpoints.append((self._program, self._prices))
        return len(self._checkpoints) - 1

    def restore(self, number):
        """Bring back program and prices of the checkpoint."""
        self._program, self._prices = self._kept(number)

    def program_at(self, number):
        """Return the program of the checkpoint."""
        program, _ = self._kept(number)
        return program

    def decide(self, claim):
        """Return a certificate with the word that is true of the claim now."""
        return decide(self._program, claim, prices=self._prices)

    def record(self, claim):
        """Decide the claim, keep the certificate, and return the record's number."""
        if len(self._certificates) == MOST_RECORDS:
            raise LimitExceeded(MOST_RECORDS)
        self._certificates.append(self.decide(claim))
        return len(self._certificates) - 1

    def recorded(self, number):
        """Return the certificate of the record."""
        if not is_number(number, 0, len(self._certificates) - 1):
            raise UnknownRecord(number)
        return self._certificates[number]

    def standing(self, number):
        """Return None if the record's certificate is right now, else its first fault."""
        return first_fault(self._program, self.recorded(number), prices=self._prices)

    def _edit(self, path, block):
        """Take over the program with this block in the place of the one in which the path is."""
        self._program = require_program(with_block(self._program, path, block))

    def _kept(self, number):
        if not is_number(number, 0, len(self._checkpoints) - 1):
            raise UnknownCheckpoint(number)
        return self._checkpoints[number]
