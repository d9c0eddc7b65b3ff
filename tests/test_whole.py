"""The whole program: of each claim just one word is true, at every moment of a session [1, 3]."""

import random
import unittest

from copyplaces.checker import first_fault
from copyplaces.claims import decide
from copyplaces.programs import require_program
from copyplaces.sessions import Session
from copyplaces.texts import format_copying, format_program, parse_copying, parse_program
from tests.judged import Graph, any_claims, any_other, any_prices, changed, fault, least_of, price
from tests.second import any_program, any_step, looping_program, tangled_program

WORDS = {True: "shown", False: "broken"}


def holds(program, claim, prices):
    """Whether a claim is true, by trying all copyings."""
    word, about = claim
    graph = Graph(program)
    if word == "safe":
        return graph.safe(about)
    if word == "clause":
        return not graph.safe(tuple(label for label in range(8) if label not in about))
    if word == "price":
        return about == min(price(copying, prices) for copying in least_of(program)[0])
    return all(graph.safe(copying) for copying in least_of(about)[0])


class WholeTest(unittest.TestCase):
    def test_no_certificate_for_what_is_not_true(self):
        """What is certified of one program, claim or price is put forward for another one."""
        rng = random.Random(3)
        accepted = 0
        for _ in range(20):
            program = rng.choice((tangled_program, tangled_program, any_program, looping_program))(rng)
            other, prices = any_other(rng, program), any_prices(rng)
            claims = list(any_claims(rng, program, other, prices))
            told = [decide(one, claim, prices=rng.choice((prices, prices[::-1])))
                    for one in (program, other) for claim, _ in claims]
            for claim, true in claims:
                own = decide(program, claim, prices=prices)
                self.assertEqual(own[0], WORDS[true])
                self.assertIsNone(first_fault(program, own, prices=prices))
                for word in ("shown", "broken"):
                    for _, _, content in told:
                        if first_fault(program, (word, claim, content), prices=prices) is None:
                            self.assertEqual(word, WORDS[true], (program, claim, content, prices))
                            accepted += 1
        self.assertGreater(accepted, 300)

    def test_what_is_accepted_is_true(self):
        rng = random.Random(33)
        accepted = 0
        for _ in range(40):
            program = rng.choice((tangled_program, any_program))(rng)
            prices = any_prices(rng)
            for claim, _ in any_claims(rng, program, any_other(rng, program), prices):
                certificate = decide(program, claim, prices=prices)
                for _ in range(6):
                    told = changed(rng, certificate)
                    if told != certificate and first_fault(program, told, prices=prices) is None:
                        self.assertEqual(told[0], WORDS[holds(program, told[1], prices)], (program, told, prices))
                        accepted += 1
        self.assertGreater(accepted, 50)

    def test_every_moment_of_a_session(self):
        """Claims are decided and recorded between edits, and each record is judged behind each edit."""
        rng = random.Random(333)
        for _ in range(12):
            session = Session(tangled_program(rng), prices=any_prices(rng))
            session.checkpoint()
            for _ in range(10):
                self.edit(rng, session)
                program, prices = session.program(), session.prices()
                for claim, true in any_claims(rng, program, session.program_at(0), prices):
                    told = session.decide(claim)
                    self.assertEqual(told[:2], (WORDS[true], claim))
                    self.assertIsNone(fault(program, told, prices))
                    if len(session) < 16 and rng.random() < 0.2:
                        self.assertIsNone(session.standing(session.record(claim)))
                for number in range(len(session)):
                    told = session.recorded(number)
                    self.assertEqual(session.standing(number), fault(program, told, prices))
                    if session.standing(number) is None:
                        self.assertEqual(told[0], WORDS[holds(program, told[1], prices)])

    def edit(self, rng, session):
        names, block = session.program()
        act = rng.choice(("put", "put", "take", "price", "restore"))
        if act == "put":
            session.put((rng.randrange(len(block) + 1) if len(block) < 8 else 0,), any_step(rng, names))
        elif act == "take" and block:
            session.take((rng.randrange(len(block)),))
        elif act == "price":
            session.set_price(rng.randrange(8), rng.choice((0, 1, 5)))
        elif act == "restore":
            session.restore(0)

    def test_texts_of_what_is_certified(self):
        """A program and a copying that are read back are as good as what was written."""
        rng = random.Random(3333)
        for _ in range(30):
            program = require_program(tangled_program(rng))
            again = parse_program(format_program(program))
            for copying in least_of(program)[0]:
                claim = ("safe", parse_copying(format_copying(copying)))
                told = decide(again, claim)
                self.assertEqual(told[0], "shown")
                self.assertIsNone(first_fault(program, told))


if __name__ == "__main__":
    unittest.main()
