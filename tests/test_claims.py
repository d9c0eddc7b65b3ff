"""Claims, and the certificates that decide returns [2, 3, 15, 16]."""

import copy
import inspect
import random
import time
import unittest

from copyplaces.claims import decide, require_claim
from copyplaces.errors import InvalidClaim
from copyplaces.programs import require_program
from tests.judged import (EVEN, LABELS, Graph, all_copyings, any_claims, any_other, any_prices, breaks, fault,
                          is_claim, least_of, others, price)
from tests.second import any_program, looping_program, pairs_program, tangled_program

EXAMPLE = (2, (("give", 0, 1, 0), ("change", 1, 0, 5), ("look", 1)))
# The same without the change, so that nothing must be copied.
TAME = (2, (("give", 0, 1, 0), ("look", 1)))
# Every safe copying has a label of 0 and 1, and one of 2 and 3.
TWICE = (3, (("give", 0, 1, 0), ("change", 1, 0, 5), ("look", 1), ("fresh", 1), ("fresh", 0),
             ("give", 2, 2, 0), ("change", 3, 2, 5), ("look", 0)))
CLAIMS = [
    ("safe", ()), ("safe", (0,)), ("safe", (7,)), ("safe", (0, 3, 7)), ("safe", LABELS),
    ("clause", (0,)), ("clause", (3, 4)), ("clause", LABELS),
    ("price", 0), ("price", 1), ("price", 998), ("price", 999),
    ("stays", EXAMPLE), ("stays", (1, ())), ("stays", (4, (("loop", ()), ("choose", ((), ()))))),
]
NO_COPYINGS = [None, True, False, 0, 1, "", "0", "safe", [], [0], [0, 1], {}, {0: 1}, (True,), (False,), (0, True),
               (-1,), (8,), (0, 8), (-1, 0), (1, 0), (0, 0), (1, 1, 2), (0, 2, 1), ("0",), (None,), ((0,),), ([],),
               (0, 1, 2, 3, 4, 5, 6, 7, 8), (10 ** 30 - 1,), (-10 ** 29,)]
NO_NUMBERS = [None, True, False, "", "0", "1", (), (0,), [], [1], {}, -1, 1000, 10 ** 30 - 1, -10 ** 29]
NO_PROGRAMS = [None, True, 0, "", (), (2,), [2, ()], (2, []), (0, ()), (5, ()), (True, ()), (2, (), ()),
               (2, ("look",)), (2, (("look", 2),)), (2, (("look", True),)), (2, (["look", 0],)),
               (2, (("give", 0, 0, 0),)), (2, (("give", 8, 1, 0),)), (2, (("change", 0, 0, 10),)),
               (2, (("choose", ((),)),)), (2, (("loop", []),)), (2, (("look", 0),) * 9), ("stays", EXAMPLE)]


def deep(value, times):
    for k in range(times):
        value = ((value,), [value], {"a": value}, (0, value))[k % 4]
    return value


def count_of(value):
    return 1 + sum(map(count_of, value)) if isinstance(value, tuple) else 1


class RequireClaimTest(unittest.TestCase):
    def assert_refused(self, value):
        kept = copy.deepcopy(value)
        self.assertFalse(is_claim(value), value)
        with self.assertRaises(InvalidClaim):
            require_claim(value)
        with self.assertRaises(InvalidClaim):
            decide(EXAMPLE, value)
        self.assertEqual(repr(value), repr(kept))

    def test_claims(self):
        for claim in CLAIMS:
            kept = copy.deepcopy(claim)
            self.assertIsNone(require_claim(claim), claim)
            self.assertEqual(claim, kept)
        self.assertIsNone(require_claim(claim=("safe", ())))

    def test_no_pairs(self):
        for value in (None, True, 0, 15, "", "safe", "ab", (), ("safe",), ("safe", (), ()), ("price", 1, 1), [], {},
                      {"safe": ()}, {"safe": (), "price": 1}, ["safe", ()], ["price", 1], [("safe", ())],
                      (("safe", ()),), (("safe", ()), ("safe", ()))):
            self.assert_refused(value)

    def test_words(self):
        for word in (None, True, 0, "", "Safe", "safe ", "share", "shown", "broken", "prices", ("safe",), ["safe"], ()):
            for about in ((), (0,), 1, EXAMPLE):
                self.assert_refused((word, about))

    def test_copyings(self):
        for about in NO_COPYINGS:
            self.assert_refused(("safe", about))
            self.assert_refused(("clause", about))
        self.assert_refused(("clause", ()))

    def test_prices(self):
        for about in NO_NUMBERS:
            self.assert_refused(("price", about))

    def test_programs(self):
        for about in NO_PROGRAMS:
            self.assert_refused(("stays", about))
        sixth = ()
        for _ in range(5):
            sixth = (("loop", sixth),)
        self.assert_refused(("stays", (1, sixth)))
        self.assertIsNone(require_claim(("stays", (1, sixth[0][1]))))
        self.assert_refused(("stays", (1, (("loop", (("fresh", 0),) * 8),) * 5)))
        self.assert_refused(("stays", (1, (("loop", (("look", 0),) * 8), ("loop", (("look", 0),) * 3)))))

    def test_one_part_changed(self):
        """A list in the place of a tuple, or True in the place of 1, at any depth."""
        for claim in CLAIMS:
            self.assert_refused(list(claim))
            for value in self.changed(claim):
                self.assert_refused(value)

    def changed(self, value):
        for k, part in enumerate(value):
            if isinstance(part, tuple):
                others = [list(part)] + list(self.changed(part))
            else:
                others = [None, (part,), [part]] + ([bool(part)] if part in (0, 1) else [])
            for other in others:
                yield value[:k] + (other,) + value[k + 1:]

    def test_deep_and_large_values(self):
        many = tuple(range(60000))
        for value in (deep(0, 37), deep("safe", 37), deep((), 37), many, list(many)):
            self.assert_refused(value)
            for word in ("safe", "clause", "price", "stays"):
                self.assert_refused((word, value))
            self.assert_refused(("stays", (2, value)))
            self.assert_refused(("stays", (2, (("loop", value),))))
            self.assert_refused(("stays", (value, ())))
            self.assert_refused((value, ()))


class DecideTest(unittest.TestCase):
    def assert_word(self, program, claim, word, prices=EVEN):
        """The certificate has this word, the form of points 15 and 16, and no fault."""
        require_program(program)
        kept = copy.deepcopy((program, claim, prices))
        certificate = decide(program, claim, prices=prices)
        self.assertEqual((program, claim, prices), kept)
        self.assertEqual(certificate[:2], (word, claim), (program, prices))
        self.assertIsNone(fault(program, certificate, prices), (program, certificate, prices))
        return certificate[2]

    def test_example(self):
        self.assertEqual((decide(EXAMPLE, ("safe", (1,)))[0], decide(EXAMPLE, ("safe", ()))[0]), ("shown", "broken"))

    def test_by_name(self):
        told = decide(claim=("price", 2), program=EXAMPLE, prices=(3, 2, 1, 1, 1, 1, 1, 1))
        self.assertEqual(told[0], "shown")
        prices = inspect.signature(decide).parameters["prices"]
        self.assertEqual((prices.kind, prices.default), (prices.KEYWORD_ONLY, EVEN))
        with self.assertRaises(TypeError):
            decide(EXAMPLE, ("price", 2), EVEN)

    def test_safe(self):
        for copying in all_copyings():
            word = "shown" if 0 in copying or 1 in copying else "broken"
            told = self.assert_word(EXAMPLE, ("safe", copying), word)
            self.assertEqual(told == (0,), word == "broken")
        self.assertEqual(self.assert_word((2, ()), ("safe", ()), "shown"), ())

    def test_clause(self):
        for some in all_copyings()[1:]:
            word = "shown" if {0, 1} <= set(some) else "broken"
            self.assert_word(EXAMPLE, ("clause", some), word)
            self.assert_word(TAME, ("clause", some), "broken")

    def test_price(self):
        prices = (4, 2, 1, 1, 1, 1, 1, 1)
        for number in (0, 1, 2, 3, 4, 5, 14, 998, 999):
            self.assert_word(EXAMPLE, ("price", number), "shown" if number == 2 else "broken", prices)
            self.assert_word(TAME, ("price", number), "shown" if number == 0 else "broken", prices)
        self.assertEqual(self.assert_word(EXAMPLE, ("price", 0), "broken", prices)[0], "more")
        self.assertEqual(self.assert_word(EXAMPLE, ("price", 1), "broken", prices)[0], "more")
        self.assertEqual(self.assert_word(EXAMPLE, ("price", 3), "broken", prices)[0], "less")
        self.assertEqual(self.assert_word(EXAMPLE, ("price", 999), "broken", prices)[0], "less")

    def test_the_tree_of_a_price(self):
        """A place with the price is a leaf at once, also if nothing safe is chosen there."""
        leaf, both = ("leaf", ()), ("node", (0, 1), (0,), (("leaf", ()), ("leaf", ())))
        self.assertEqual(self.assert_word(EXAMPLE, ("price", 1), "shown")[2], both)
        self.assertEqual(self.assert_word(EXAMPLE, ("price", 0), "broken")[1], both)
        self.assertEqual(self.assert_word(TAME, ("price", 0), "shown")[2], leaf)
        self.assertEqual(self.assert_word(EXAMPLE, ("price", 0), "shown", (0,) * 8)[2], leaf)
        self.assert_word(EXAMPLE, ("price", 1), "broken", (0,) * 8)

    def test_prices_of_nought(self):
        self.assert_word(pairs_program(), ("price", 0), "shown", (0, 0, 0, 0, 0, 0, 0, 9))
        self.assert_word(pairs_program(), ("price", 0), "broken", (0, 0, 0, 0, 0, 0, 3, 9))
        self.assert_word(pairs_program(), ("price", 2), "broken", (0, 0, 0, 0, 0, 0, 3, 9))
        self.assert_word(pairs_program(), ("price", 3), "shown", (0, 0, 0, 0, 0, 0, 3, 9))
        self.assert_word(pairs_program(), ("price", 4), "broken", (0, 0, 0, 0, 0, 0, 3, 9))

    def test_stays(self):
        for program in (EXAMPLE, TAME, TWICE, pairs_program(), (1, ())):
            self.assert_word(program, ("stays", program), "shown")
        self.assert_word(TAME, ("stays", EXAMPLE), "shown")
        self.assert_word(EXAMPLE, ("stays", TAME), "broken")
        self.assert_word(EXAMPLE, ("stays", TWICE), "shown")
        self.assert_word(EXAMPLE, ("stays", pairs_program()), "shown")
        self.assert_word(pairs_program(), ("stays", EXAMPLE), "broken")

    def test_stays_between_unlike_numbers_of_names(self):
        four = (4, (("give", 0, 3, 2), ("change", 1, 2, 5), ("look", 3), ("look", 0)))
        wide = (4, four[1][:3] + (("give", 2, 1, 3), ("change", 3, 3, 5), ("look", 1)))
        self.assert_word(EXAMPLE, ("stays", four), "shown")
        self.assert_word(four, ("stays", EXAMPLE), "shown")
        self.assert_word((1, (("look", 0),)), ("stays", four), "shown")
        self.assert_word(four, ("stays", (1, (("change", 0, 0, 5), ("look", 0)))), "broken")
        self.assert_word(EXAMPLE, ("stays", wide), "shown")
        told = self.assert_word(wide, ("stays", EXAMPLE), "broken")
        self.assertTrue(Graph(EXAMPLE).safe(told[0]))

    def test_stays_is_about_copyings_that_are_safe_for_old(self):
        """Unlike clauses of both: what is safe for one of them is not for the other."""
        one = (2, (("give", 0, 1, 0), ("change", 1, 0, 5), ("look", 1)))
        other = (2, (("give", 0, 1, 0), ("change", 2, 0, 5), ("look", 1)))
        self.assert_word(one, ("stays", other), "broken")
        self.assert_word(other, ("stays", one), "broken")

    def test_eight_labels_come_soon(self):
        program = pairs_program()
        for claim, word in ((("price", 7), "shown"), (("price", 6), "broken"), (("price", 8), "broken"),
                            (("stays", program), "shown"), (("safe", (0, 1)), "broken"), (("clause", (2, 5)), "shown")):
            begun = time.perf_counter()
            decide(program, claim)
            self.assertLess(time.perf_counter() - begun, 4, claim)
            told = self.assert_word(program, claim, word)
            # So a certificate stays within the parts that any value may have.
            self.assertLess(count_of(told), 200000)

    def test_the_word_is_true(self):
        """Against all copyings, told by the second telling of facts."""
        rng = random.Random(15)
        words = {}
        for _ in range(70):
            program = rng.choice((tangled_program, tangled_program, any_program, looping_program))(rng)
            prices = any_prices(rng)
            for claim, holds in any_claims(rng, program, any_other(rng, program), prices):
                word = "shown" if holds else "broken"
                words[claim[0], word] = words.get((claim[0], word), 0) + 1
                self.assert_word(program, claim, word, prices)
        self.assertEqual(len(words), 8)
        self.assertGreater(min(words.values()), 10, words)


class TreeTest(unittest.TestCase):
    """Trees place by place, by a telling of their own: each leaf and each node is due."""

    def places(self, tree, chosen=()):
        yield tree, chosen
        if tree[0] == "node":
            self.assertEqual(len(tree), 4)
            self.assertEqual(len(tree[1]), len(tree[3]))
            for label, inner in zip(tree[1], tree[3]):
                yield from self.places(inner, chosen + (label,))

    def assert_nodes(self, program, tree):
        for place, chosen in self.places(tree):
            self.assertLessEqual(len(chosen), 8)
            self.assertEqual(len(set(chosen)), len(chosen))
            if place[0] == "node":
                self.assertFalse(set(place[1]) & set(chosen))
                self.assertTrue(place[1])
                self.assertTrue(breaks(program, others(place[1]), place[2]))

    def test_places_of_prices(self):
        rng = random.Random(16)
        for k in range(24):
            program = pairs_program() if k % 8 == 0 else tangled_program(rng)
            prices = tuple(rng.choice((0, 1, 1, 2, 5)) for _ in range(8))
            least = min(price(copying, prices) for copying in least_of(program)[0])
            trees = [(least, decide(program, ("price", least), prices=prices)[2][2])]
            if least > 0:
                trees.append((least, decide(program, ("price", least - 1), prices=prices)[2][1]))
            for bound, tree in trees:
                self.assert_nodes(program, tree)
                for place, chosen in self.places(tree):
                    self.assertEqual(place[0] == "leaf", price(chosen, prices) >= bound)
                    self.assertIn(place[1:], [((),)] if place[0] == "leaf" else [place[1:]])

    def test_places_of_stays(self):
        rng = random.Random(17)
        for _ in range(25):
            old = rng.choice((tangled_program(rng), pairs_program()))
            program = (old[0], old[1][:-1])
            told = decide(program, ("stays", old))
            self.assertEqual(told[0], "shown")
            self.assert_nodes(old, told[2])
            graph = Graph(program)
            for place, chosen in self.places(told[2]):
                if place[0] == "leaf":
                    self.assertTrue(graph.safe(chosen))
                    self.assertLessEqual(graph.facts(chosen), set(place[1]))


if __name__ == "__main__":
    unittest.main()
