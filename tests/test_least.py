"""Least copyings, least clauses, and prices [2, 14]."""

import copy
import random
import time
import unittest

from copyplaces.least import cheapest, least_clauses, least_copyings, least_price, price_of
from copyplaces.programs import require_program
from copyplaces.safety import is_safe
from tests.judged import EVEN, LABELS, all_copyings, any_prices, least_of
from tests.second import any_program, looping_program, pairs_program, tangled_program

EXAMPLE = (2, (("give", 0, 1, 0), ("change", 1, 0, 5), ("look", 1)))
SHOWN = ("look", 1)


def one_of_each(*pairs):
    """A program of which every safe copying has a label of each of the pairs."""
    block = ()
    for give, change in pairs:
        block += (("choose", ((("give", give, 1, 0), ("change", change, 0, 3), SHOWN), ())), ("fresh", 1))
    return require_program((2, block))


class LeastTest(unittest.TestCase):
    def assert_least(self, program, copyings, clauses):
        require_program(program)
        kept = copy.deepcopy(program)
        told = (least_copyings(program), least_clauses(program))
        self.assertEqual(told, (copyings, clauses), program)
        self.assertEqual({type(value) for value in told + told[0] + told[1]} - {tuple}, set())
        self.assertEqual(program, kept)

    def assert_as_all_say(self, program):
        self.assert_least(program, *least_of(program))

    def test_example(self):
        self.assert_least(EXAMPLE, ((0,), (1,)), ((0, 1),))
        self.assertEqual((least_copyings(program=EXAMPLE), least_clauses(program=EXAMPLE)),
                         (((0,), (1,)), ((0, 1),)))

    def test_nothing_must_be_copied(self):
        for block in ((), (SHOWN,), (("give", 0, 1, 0), SHOWN), (("change", 0, 0, 3), SHOWN),
                      (("give", 0, 1, 0), ("change", 1, 0, 3)),
                      (("give", 0, 1, 0), ("change", 1, 0, 3), ("fresh", 1), SHOWN)):
            self.assert_least((2, block), ((),), ())
            self.assertEqual(least_price((2, block), EVEN), 0)
            self.assertEqual(cheapest((2, block), EVEN), ())

    def test_one_label_for_both(self):
        self.assert_least((2, (("give", 4, 1, 0), ("change", 4, 0, 3), SHOWN)), ((4,),), ((4,),))

    def test_sets_of_unlike_sizes(self):
        """Least is not: with the fewest labels."""
        program = one_of_each((0, 1), (0, 2), (0, 3))
        self.assert_least(program, ((0,), (1, 2, 3)), ((0, 1), (0, 2), (0, 3)))
        program = (3, (("give", 2, 1, 0), ("give", 5, 2, 1), ("change", 3, 0, 1), ("look", 2), ("look", 1)))
        self.assert_least(program, ((2,), (3,)), ((2, 3),))

    def test_ascending_as_python_orders_tuples(self):
        program = one_of_each((1, 5), (0, 5), (2, 3), (7, 3))
        self.assert_least(program, ((0, 1, 2, 7), (0, 1, 3), (2, 5, 7), (3, 5)), ((0, 5), (1, 5), (2, 3), (3, 7)))

    def test_all_pairs_of_eight_labels(self):
        program = require_program(pairs_program())
        self.assert_least(program, tuple(some for some in all_copyings() if len(some) == 7),
                          tuple(some for some in all_copyings() if len(some) == 2))

    def test_as_all_copyings_say(self):
        rng = random.Random(14)
        for _ in range(20):
            self.assert_as_all_say(require_program(tangled_program(rng)))
        for _ in range(6):
            self.assert_as_all_say(require_program(any_program(rng)))
            self.assert_as_all_say(require_program(looping_program(rng)))

    def test_big_programs_come_soon(self):
        rng = random.Random(8)
        programs = [pairs_program()] + [any_program(rng) for _ in range(5)] + [tangled_program(rng) for _ in range(5)]
        for program in programs:
            begun = time.perf_counter()
            least_copyings(program)
            least_clauses(program)
            self.assertLess(time.perf_counter() - begun, 4, program)


class PriceTest(unittest.TestCase):
    def assert_cheapest(self, program, prices, price, copying):
        kept = copy.deepcopy((program, prices))
        self.assertEqual((least_price(program, prices), cheapest(program, prices)), (price, copying), (program, prices))
        self.assertEqual((program, prices), kept)

    def test_price_of(self):
        prices = (1, 2, 4, 8, 16, 32, 64, 99)
        self.assertEqual(price_of((), prices), 0)
        self.assertEqual(price_of((0, 3, 7), prices), 108)
        self.assertEqual(price_of(LABELS, prices), 226)
        self.assertEqual(price_of(prices=(0,) * 8, copying=LABELS), 0)
        self.assertEqual(price_of((1, 2), (5, 0, 3, 5, 5, 5, 5, 5)), 3)

    def test_example(self):
        self.assert_cheapest(EXAMPLE, (4, 2, 1, 1, 1, 1, 1, 1), 2, (1,))
        self.assert_cheapest(EXAMPLE, (1, 2, 0, 0, 0, 0, 0, 0), 1, (0,))
        self.assertEqual(least_price(prices=EVEN, program=EXAMPLE), 1)
        self.assertEqual(cheapest(prices=EVEN, program=EXAMPLE), (0,))

    def test_the_first_one_of_those_that_cost_the_same(self):
        program = one_of_each((1, 5), (0, 5), (2, 3), (7, 3))
        self.assert_cheapest(program, EVEN, 2, (3, 5))
        self.assert_cheapest(program, (0, 0, 1, 1, 0, 0, 0, 0), 1, (0, 1, 2, 7))
        self.assert_cheapest(program, (0, 1, 1, 1, 0, 1, 0, 0), 2, (0, 1, 2, 7))
        self.assert_cheapest(program, (0, 1, 9, 1, 0, 1, 0, 0), 2, (0, 1, 3))
        self.assert_cheapest(program, (9, 1, 1, 9, 0, 1, 0, 0), 2, (2, 5, 7))
        self.assert_cheapest(program, (0,) * 8, 0, (0, 1, 2, 7))
        self.assert_cheapest(program, (99,) * 8, 198, (3, 5))

    def test_no_label_is_taken_that_could_be_left_out(self):
        self.assert_cheapest(EXAMPLE, (0, 0, 0, 0, 0, 0, 0, 0), 0, (0,))
        self.assert_cheapest(EXAMPLE, (7, 0, 0, 0, 0, 0, 0, 0), 0, (1,))

    def test_dear_labels(self):
        self.assert_cheapest(pairs_program(), (99,) * 8, 693, (0, 1, 2, 3, 4, 5, 6))
        self.assert_cheapest(pairs_program(), (1, 2, 3, 99, 5, 6, 7, 8), 32, (0, 1, 2, 4, 5, 6, 7))

    def test_as_all_copyings_say(self):
        rng = random.Random(140)
        for _ in range(12):
            program = require_program(tangled_program(rng))
            copyings, _ = least_of(program)
            for _ in range(4):
                prices = any_prices(rng)
                costs = [sum(prices[label] for label in copying) for copying in copyings]
                self.assert_cheapest(program, prices, min(costs), copyings[costs.index(min(costs))])
                self.assertEqual(min(price_of(copying, prices) for copying in all_copyings()
                                     if is_safe(program, copying)), min(costs))


if __name__ == "__main__":
    unittest.main()
