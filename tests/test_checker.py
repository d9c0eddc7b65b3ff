"""The checker: right certificates, and the first fault of the others [2, 3, 15, 16, 17]."""

import copy
import inspect
import random
import time
import unittest

from copyplaces.checker import first_fault
from copyplaces.claims import decide
from copyplaces.programs import require_program
from tests.judged import (EVEN, LABELS, any_claims, any_other, any_prices, changed, fault, part_at, places_in,
                          with_part)
from tests.second import any_program, looping_program, pairs_program, tangled_program

GIVE, CHANGE, LOOK = ("give", 0, 1, 0), ("change", 1, 0, 5), ("look", 1)
EXAMPLE = (2, (GIVE, CHANGE, LOOK))
TAME = (2, (GIVE, LOOK))
# The loop is the spot 0, the look the spot 1; the loop's way 0 leads to the look.
ROUNDS = (2, (("loop", (GIVE, CHANGE, LOOK)),))
AT_LOOP, AT_LOOK = (0, "reached"), (1, "reached")
STALE_LOOP, STALE_LOOK = (0, "stale", 1), (1, "stale", 1)
# Every safe copying has a label of 0 and 1, and one of 2 and 3.
TWICE = (3, (("choose", ((GIVE, CHANGE, LOOK), (("give", 2, 1, 0), ("change", 3, 0, 5), LOOK))),))
LEAF = ("leaf", ())


def node(clause, ways, *trees):
    return ("node", clause, ways, trees)


# A right tree that no safe copying of TWICE is cheaper than 2, if all labels cost 1.
LOWER = node((2, 3), (1, 0), LEAF, LEAF)
TWICE_TREE = node((0, 1), (0, 0), LOWER, LOWER)
TWICE_TABLE = ((0, "reached"), (1, "reached"), (2, "reached"))


class Checks(unittest.TestCase):
    def assert_fault(self, program, certificate, told, prices=EVEN):
        require_program(program)
        kept = copy.deepcopy((program, certificate, prices))
        found = first_fault(program, certificate, prices=prices)
        self.assertEqual(repr(found), repr(told), (program, certificate, prices))
        self.assertEqual(repr(fault(program, certificate, prices)), repr(told))
        self.assertEqual(repr((program, certificate, prices)), repr(kept))

    def assert_right(self, program, certificate, prices=EVEN):
        self.assert_fault(program, certificate, None, prices)

    def assert_form(self, program, certificate):
        self.assert_fault(program, certificate, ("form",))


class TableTest(Checks):
    def assert_table(self, program, copying, table, told):
        """As a table of a safe copying, and of what is no clause."""
        self.assert_fault(program, ("shown", ("safe", copying), table), told)
        some = tuple(label for label in LABELS if label not in copying)
        if some:
            self.assert_fault(program, ("broken", ("clause", some), table), told)

    def test_example(self):
        self.assertEqual(first_fault(EXAMPLE, ("shown", ("safe", ()), ((0, "reached"),))), ("start",))

    def test_right_ones(self):
        self.assert_table(EXAMPLE, (0,), ((0, "reached"),), None)
        self.assert_table(EXAMPLE, (1,), ((0, "reached"),), None)
        self.assert_table(EXAMPLE, LABELS, ((0, "reached"),), None)
        self.assert_table(TAME, (), ((0, "reached"), (0, "share", 0, 1)), None)
        self.assert_table((2, ()), (), (), None)
        self.assert_table(ROUNDS, (0,), (AT_LOOP, AT_LOOK), None)

    def test_facts_that_no_run_has(self):
        """They may stand in a table, if that to which they lead stands there, too."""
        self.assert_table(EXAMPLE, (0,), ((0, "reached"), (0, "share", 0, 1), (0, "stale", 0)), None)
        self.assert_table(ROUNDS, (0,), (AT_LOOP, (0, "share", 0, 1), AT_LOOK), None)
        self.assert_table(ROUNDS, (1,), (AT_LOOP, (0, "share", 0, 1), STALE_LOOP, AT_LOOK, (1, "share", 0, 1)), None)
        self.assert_table(ROUNDS, (1,), (AT_LOOP, STALE_LOOP, AT_LOOK, (1, "share", 0, 1)), ("step", 3, 0))
        self.assert_table(ROUNDS, (0,), (AT_LOOP, (0, "stale", 0), AT_LOOK), ("step", 1, 0))
        self.assert_table((2, ()), (), ((0, "reached"),), ("form",))

    def test_start(self):
        self.assert_table(EXAMPLE, (0,), (), ("start",))
        self.assert_table(EXAMPLE, (), ((0, "reached"), (0, "stale", 1)), ("start",))
        self.assert_table(ROUNDS, (0,), (AT_LOOK,), ("start",))
        # Beside a stale name at a look, and beside a step.
        self.assert_table(EXAMPLE, (), ((0, "share", 0, 1), (0, "stale", 1)), ("start",))
        self.assert_table(ROUNDS, (), (STALE_LOOP,), ("start",))

    def test_stale(self):
        self.assert_table(EXAMPLE, (), ((0, "reached"), (0, "share", 0, 1), (0, "stale", 1)), ("stale", 2))
        self.assert_table(EXAMPLE, (), ((0, "reached"), (0, "share", 0, 1), (0, "stale", 0), (0, "stale", 1)),
                          ("stale", 3))
        self.assert_table(ROUNDS, (0,), (AT_LOOP, AT_LOOK, STALE_LOOK), ("stale", 2))

    def test_step(self):
        self.assert_table(ROUNDS, (0,), (AT_LOOP,), ("step", 0, 0))
        self.assert_table(ROUNDS, (1,), (AT_LOOP, AT_LOOK), None)
        self.assert_table(ROUNDS, (), (AT_LOOP, AT_LOOK), ("step", 0, 0))
        self.assert_table(TWICE, (0, 2), ((0, "reached"),), ("step", 0, 0))
        self.assert_table(TWICE, (0, 2), ((0, "reached"), (1, "reached")), ("step", 0, 1))
        self.assert_table(TWICE, (0, 2), ((0, "reached"), (2, "reached")), ("step", 0, 0))
        self.assert_table(TWICE, (0, 2), ((0, "reached"), (0, "stale", 2), (1, "reached"), (1, "stale", 2),
                                          (2, "reached")), ("step", 1, 1))
        self.assert_table(TWICE, (0, 2), TWICE_TABLE, None)

    def test_the_least_index_counts(self):
        """A step of an earlier fact comes before a stale name at a look, and the other way round."""
        self.assert_table(ROUNDS, (0,), (AT_LOOP, STALE_LOOK), ("step", 0, 0))
        self.assert_table(ROUNDS, (0,), (AT_LOOP, AT_LOOK, (1, "share", 0, 1), STALE_LOOK), ("step", 2, 0))
        program = (2, (LOOK, ("loop", (GIVE, LOOK))))
        self.assert_table(program, (0,), ((0, "reached"), (0, "stale", 1), (1, "reached")), ("stale", 1))
        self.assert_table(program, (0,), ((0, "reached"), (0, "stale", 1)), ("step", 0, 0))

    def test_forms(self):
        for told in (None, True, 0, "", [], [(0, "reached")], {}, {(0, "reached"): 1}, (0,), ("reached",), ((),),
                     (None,), ([0, "reached"],), ((0,),), ((0, "reached", 0),), ((0, "reached", ()),),
                     ((True, "reached"),), ((False, "reached"),), ((-1, "reached"),), ((1, "reached"),),
                     (("0", "reached"),), ((0, "start"),), ((0, ["reached"]),), ((0, 0),), ((0, "share"),),
                     ((0, "share", 0),), ((0, "share", 1, 0),), ((0, "share", 0, 0),), ((0, "share", 0, 2),),
                     ((0, "share", 0, True),), ((0, "share", False, 1),), ((0, "share", -1, 1),),
                     ((0, "share", (0, 1)),), ((0, "share", 0, 1, 2),), ((0, "stale"),), ((0, "stale", 2),),
                     ((0, "stale", True),), ((0, "stale", -1),), ((0, "stale", 0, 1),), ((0, "stale", None),),
                     ((0, "reached"), (0, "reached")), ((0, "stale", 1), (0, "reached")),
                     ((0, "reached"), (0, "stale", 0), (0, "share", 0, 1)), ((0, "reached"), None)):
            self.assert_table(EXAMPLE, (0,), told, ("form",))

    def test_possible_facts_are_those_of_the_program(self):
        four = (4, EXAMPLE[1] + (LOOK,))
        table = ((0, "reached"), (0, "stale", 3), (1, "reached"), (1, "share", 2, 3), (1, "stale", 3))
        self.assert_table(four, (0,), table, None)
        self.assert_table((3, four[1]), (0,), table, ("form",))
        self.assert_table((4, EXAMPLE[1]), (0,), table, ("form",))


class WaysTest(Checks):
    def assert_ways(self, program, copying, ways, told):
        """As ways that break a copying, and that show a clause."""
        self.assert_fault(program, ("broken", ("safe", copying), ways), told)
        some = tuple(label for label in LABELS if label not in copying)
        if some:
            self.assert_fault(program, ("shown", ("clause", some), ways), told)

    def test_right_ones(self):
        for ways in ((0,), (0, 2), (0, 0, 0, 1)):
            self.assert_ways(EXAMPLE, (), ways, None)
            self.assert_ways(EXAMPLE, (2, 7), ways, None)
        self.assert_ways(ROUNDS, (), (0, 0), None)
        self.assert_ways(ROUNDS, (), (0, 0, 2), None)
        self.assert_ways(ROUNDS, (), (0, 0, 1, 1), None)

    def test_wrong_ones(self):
        for ways in ((), (1,), (2, 0), (1, 0)):
            self.assert_ways(EXAMPLE, (), ways, ("ways",))
        for ways in ((), (0,), (1,), (0, 1), (1, 0, 0), (2, 0, 0), (0, 2, 0)):
            self.assert_ways(ROUNDS, (), ways, ("ways",))
        for copying in ((0,), (1,), (0, 1), LABELS):
            self.assert_ways(EXAMPLE, copying, (0,), ("ways",))
            self.assert_ways(ROUNDS, copying, (0, 0) * 20, ("ways",))
        self.assert_ways((2, ()), (), (0, 0), ("ways",))

    def test_long_ones(self):
        program = (2, (GIVE, ("loop", (CHANGE,)), ("look", 0), LOOK))
        rounds = (0,) * 700
        self.assert_ways(program, (), rounds + (1, 0, 0), None)
        self.assert_ways(program, (), (1, 0, 0), ("ways",))
        self.assert_ways(program, (), rounds + (1, 0), ("ways",))
        self.assert_ways(program, (), rounds + (1, 1, 0), ("ways",))
        # Too long for the second telling, in which values grow with the ways.
        begun = time.perf_counter()
        self.assertIsNone(first_fault(program, ("broken", ("safe", ()), (0,) * 150000 + (1, 0, 0))))
        self.assertEqual(first_fault(program, ("broken", ("safe", (1,)), (0,) * 150000 + (1, 0, 0))), ("ways",))
        self.assertLess(time.perf_counter() - begun, 4)

    def test_forms(self):
        for ways in (None, True, 0, "", "0", [], [0], {}, {0: 0}, (3,), (-1,), (0, 3), (False,), (0, True), ("0",),
                     (None,), ((0,),), ([],), (10 ** 29,), (0, 0, 0, None)):
            self.assert_ways(EXAMPLE, (), ways, ("form",))


class PriceTest(Checks):
    def assert_less(self, number, copying, table, told, prices=EVEN):
        self.assert_fault(TWICE, ("broken", ("price", number), ("less", copying, table)), told, prices)

    def assert_more(self, number, tree, told, prices=EVEN):
        self.assert_fault(TWICE, ("broken", ("price", number), ("more", tree)), told, prices)

    def assert_shown(self, number, copying, table, tree, told, prices=EVEN):
        self.assert_fault(TWICE, ("shown", ("price", number), (copying, table, tree)), told, prices)

    def test_shown(self):
        self.assert_shown(2, (0, 2), TWICE_TABLE, TWICE_TREE, None)
        self.assert_shown(2, (1, 3), TWICE_TABLE + ((2, "share", 0, 1),), TWICE_TREE, None)
        self.assert_shown(0, (0, 2), TWICE_TABLE, LEAF, None, (0,) * 8)
        # Also labels that do not stand are paid for.
        self.assert_shown(2, (0, 2, 7), TWICE_TABLE, TWICE_TREE, None, (1, 1, 1, 1, 1, 1, 1, 0))

    def test_shown_price(self):
        for number in (0, 1, 3, 999):
            self.assert_shown(number, (0, 2), TWICE_TABLE, TWICE_TREE, ("price",))
        self.assert_shown(2, (0, 2), TWICE_TABLE, TWICE_TREE, ("price",), (1, 1, 2, 1, 1, 1, 1, 1))
        self.assert_shown(2, (0, 2, 7), TWICE_TABLE, TWICE_TREE, ("price",))
        # Beside a fault of the table, and of the tree.
        self.assert_shown(3, (0, 2), (), LEAF, ("price",))

    def test_shown_table_before_tree(self):
        self.assert_shown(2, (0, 2), (), LEAF, ("start",))
        self.assert_shown(2, (0, 2), ((0, "reached"),), LEAF, ("step", 0, 0))
        self.assert_shown(2, (0, 4), TWICE_TABLE, TWICE_TREE, ("step", 0, 1))
        self.assert_shown(2, (0, 2), TWICE_TABLE + ((2, "stale", 1),), LEAF, ("stale", 3))
        self.assert_shown(2, (0, 2), TWICE_TABLE, LEAF, ("tree", (), "leaf"))

    def test_less(self):
        self.assert_less(3, (0, 2), TWICE_TABLE, None)
        self.assert_less(999, (0, 1, 2), TWICE_TABLE, None)
        for number in (0, 1, 2):
            self.assert_less(number, (0, 2), TWICE_TABLE, ("price",))
        self.assert_less(2, (0, 2), (), ("price",))
        self.assert_less(3, (0, 2), (), ("start",))
        self.assert_less(3, (0, 4), TWICE_TABLE, ("step", 0, 1))
        self.assert_less(3, (0, 2), TWICE_TABLE, ("price",), (1, 1, 2, 1, 1, 1, 1, 1))

    def test_more(self):
        """A place with the very price is no leaf here, for what is safe must cost more."""
        self.assert_more(1, TWICE_TREE, None)
        self.assert_more(2, TWICE_TREE, ("tree", (0, 0), "leaf"))
        self.assert_more(0, TWICE_TREE, ("tree", (0,), "leaf"))
        self.assert_more(0, node((0, 1), (0, 0), LEAF, LEAF), None)
        self.assert_more(0, node((2, 3), (1, 0), LEAF, LEAF), None)
        self.assert_more(3, TWICE_TREE, None, (2, 2, 2, 2, 1, 1, 1, 1))
        self.assert_more(4, TWICE_TREE, ("tree", (0, 0), "leaf"), (2, 2, 2, 2, 1, 1, 1, 1))
        self.assert_more(999, LEAF, ("tree", (), "leaf"))

    def test_leaves(self):
        for tree, told in ((LEAF, ("tree", (), "leaf")), (node((0, 1), (0, 0), LEAF, LOWER), ("tree", (0,), "leaf")),
                           (node((0, 1), (0, 0), LOWER, LEAF), ("tree", (1,), "leaf")),
                           (node((0, 1), (0, 0), node((2, 3), (1, 0), LEAF, LOWER), LEAF), ("tree", (0, 1), "leaf"))):
            self.assert_shown(2, (0, 2), TWICE_TABLE, tree, told)
            self.assert_more(1, tree, told)

    def test_dear_labels_end_a_branch(self):
        tree = node((0, 1), (0, 0), LEAF, LOWER)
        self.assert_more(1, tree, None, (2, 1, 1, 1, 1, 1, 1, 1))
        self.assert_more(1, tree, ("tree", (0,), "leaf"))
        self.assert_more(1, TWICE_TREE, ("tree", (0,), "leaf"), (2, 1, 1, 1, 1, 1, 1, 1))

    def test_met(self):
        again = node((0, 1), (0, 0), LEAF, LEAF)
        self.assert_more(1, node((0, 1), (0, 0), again, LOWER), ("tree", (0,), "met"))
        self.assert_more(1, node((0, 1), (0, 0), LOWER, again), ("tree", (1,), "met"))
        self.assert_more(1, node((0, 1), (0, 0), node((1, 2, 3), (1, 0), LEAF, LEAF, LEAF), node((1, 2), (), LEAF, LEAF)),
                         ("tree", (1,), "met"))
        # A label is met before the ways are asked, and a leaf that is due before both.
        self.assert_more(1, node((0, 1), (0, 0), node((0, 1), (), LEAF, LEAF), LEAF), ("tree", (0,), "met"))
        self.assert_more(0, node((0, 1), (0, 0), node((0, 1), (), LEAF, LEAF), LEAF), ("tree", (0,), "leaf"))

    def test_ways(self):
        self.assert_more(1, node((0, 1), (), LOWER, LOWER), ("tree", (), "ways"))
        self.assert_more(1, node((0, 1), (1, 0), LOWER, LOWER), ("tree", (), "ways"))
        self.assert_more(1, node((0, 2), (0, 0), LOWER, LOWER), ("tree", (), "ways"))
        self.assert_more(1, node((0, 1), (0, 0), node((2, 3), (0, 0), LEAF, LEAF), LEAF), ("tree", (0,), "ways"))
        self.assert_more(1, node((0, 1), (0, 0), LOWER, node((2,), (1, 0), LEAF)), ("tree", (1,), "ways"))
        # The ways of the root come before what is wrong in its trees, and the first tree before the second.
        self.assert_more(1, node((0, 1), (), LEAF, LEAF), ("tree", (), "ways"))
        self.assert_more(1, node((0, 1), (0, 0), node((2, 3), (), LOWER, LOWER), LEAF), ("tree", (0,), "ways"))
        # More labels than a least clause has make a clause, too.
        wide = node((0, 1, 5), (0, 0), LOWER, LOWER, LOWER)
        self.assert_more(1, wide, None)

    def test_forms(self):
        right = ((0, 2), TWICE_TABLE, TWICE_TREE)
        for told in (None, 0, "", (), [], {}, list(right), right[:2], right + ((),), right[1:],
                     ([0, 2],) + right[1:], ((2, 0),) + right[1:], ((0, 0),) + right[1:], ((0, 8),) + right[1:],
                     ((False, 2),) + right[1:], (None,) + right[1:],
                     (right[0], list(TWICE_TABLE), TWICE_TREE), (right[0], TWICE_TABLE[::-1], TWICE_TREE),
                     (right[0], ((3, "reached"),), TWICE_TREE), (right[0], TWICE_TABLE, None),
                     ("less", (0, 2), TWICE_TABLE), ("more", TWICE_TREE)):
            self.assert_form(TWICE, ("shown", ("price", 2), told))
        for told in (None, 0, "", "less", (), [], {}, right, ("less",), ("more",), ("less", (0, 2)),
                     ["less", (0, 2), TWICE_TABLE], ["more", TWICE_TREE], ("more", TWICE_TREE, ()),
                     ("less", (0, 2), TWICE_TABLE, ()), ("less", [0, 2], TWICE_TABLE), ("less", (0, 2), [AT_LOOP]),
                     ("less", TWICE_TREE), ("more", (0, 2), TWICE_TABLE), ("Less", (0, 2), TWICE_TABLE),
                     ("most", TWICE_TREE), (None, TWICE_TREE), (("more",), TWICE_TREE), ("more", None)):
            self.assert_form(TWICE, ("broken", ("price", 3), told))


class TreeFormTest(Checks):
    def assert_tree_form(self, tree):
        """In each certificate in which a tree stands."""
        self.assert_form(TWICE, ("shown", ("price", 2), ((0, 2), TWICE_TABLE, tree)))
        self.assert_form(TWICE, ("broken", ("price", 1), ("more", tree)))
        self.assert_form((1, ()), ("shown", ("stays", TWICE), tree))
        # Deep within another tree, and beside other faults before it.
        self.assert_form(TWICE, ("broken", ("price", 1), ("more", node((2, 3), (), TWICE_TREE, node((4,), (), tree)))))

    def test_forms(self):
        for tree in (None, True, 0, "", "leaf", (), [], {}, ("leaf",), ("node",), (LEAF,), ["leaf", ()], ("leaf", (), ()),
                     ("leaf", None), ("leaf", []), ("leaf", 0), ("leaf", ""), ("leaf", {}), ("leaf", False),
                     ("leaf", ("reached",)), ("leaf", LEAF), ("Leaf", ()), (("leaf",), ()), (["leaf"], ()),
                     ("tree", (0,), (0, 0), (LEAF,)), ("node", (0,), (0, 0)), ("node", (0,), (0, 0), (LEAF,), ()),
                     ["node", (0,), (0, 0), (LEAF,)], ("node", (), (0, 0), ()), ("node", [0], (0, 0), (LEAF,)),
                     ("node", (8,), (0, 0), (LEAF,)), ("node", (False,), (0, 0), (LEAF,)),
                     ("node", (1, 0), (0, 0), (LEAF, LEAF)), ("node", (1, 1), (0, 0), (LEAF, LEAF)),
                     ("node", 0, (0, 0), (LEAF,)), ("node", None, (0, 0), (LEAF,)),
                     ("node", (0,), [0, 0], (LEAF,)), ("node", (0,), (0, 3), (LEAF,)), ("node", (0,), None, (LEAF,)),
                     ("node", (0,), (0, False), (LEAF,)), ("node", (0,), (0, 0), [LEAF]), ("node", (0,), (0, 0), LEAF),
                     ("node", (0,), (0, 0), ()), ("node", (0,), (0, 0), (LEAF, LEAF)), ("node", (0, 1), (0, 0), (LEAF,)),
                     ("node", (0, 1), (0, 0), (LEAF, None)), ("node", (0,), (0, 0), None)):
            self.assert_tree_form(tree)

    def test_what_the_leaves_hold(self):
        """Nothing for a price, a table of the program, not of old, for stays."""
        table = ((0, "reached"),)
        self.assert_form(TWICE, ("broken", ("price", 1), ("more", ("leaf", table))))
        for content in ((), table, ((0, "reached"), (0, "stale", 2))):
            told = first_fault((3, (LOOK,)), ("shown", ("stays", EXAMPLE), ("leaf", content)))
            self.assertNotEqual(told, ("form",))
        for content in (((0, "reached"), (0, "stale", 2)), ((1, "reached"),), ((0, "reached"), (0, "reached"))):
            self.assert_form((2, (LOOK,)), ("shown", ("stays", TWICE), ("leaf", content)))

    def test_eight_and_nine_nodes(self):
        """Eight within one another have the form of a tree, nine do not; whatever is wrong elsewhere."""
        def chain(many, clauses):
            tree = LEAF
            for k in reversed(range(many)):
                tree = node((clauses[k % 8],), (), tree)
            return tree

        for clauses in (LABELS, LABELS[::-1], (0,) * 8):
            eight = ("broken", ("price", 9), ("more", chain(8, clauses)))
            self.assert_fault(EXAMPLE, eight, ("tree", (), "ways"))
            self.assert_form(EXAMPLE, ("broken", ("price", 9), ("more", chain(9, clauses))))
            self.assert_form(EXAMPLE, ("broken", ("price", 0), ("more", chain(12, clauses))))
            self.assert_fault(EXAMPLE, ("shown", ("stays", EXAMPLE), chain(8, clauses)), ("tree", (), "ways"))
            self.assert_form(EXAMPLE, ("shown", ("stays", EXAMPLE), chain(9, clauses)))
        beside = node((0, 1), (), LEAF, chain(8, LABELS))
        self.assert_form(EXAMPLE, ("broken", ("price", 9), ("more", beside)))
        self.assert_fault(EXAMPLE, ("broken", ("price", 9), ("more", node((0, 1), (0,), LEAF, chain(7, LABELS)))),
                          ("tree", (0,), "leaf"))

    def test_eight_nodes_that_are_right(self):
        """Each label alone is a clause, so a branch has eight nodes."""
        steps = tuple(("choose", ((("give", p, 1, 0), ("change", p, 0, 1)), ())) for p in range(8))
        program = (2, (("choose", (steps, ())), LOOK))
        tree = LEAF
        for label in range(8):
            ways = (0,) + tuple(0 if p == label else 1 for p in range(8)) + (0,)
            tree = node((label,), ways, tree)
        table = tuple((spot, "reached") for spot in range(10))
        self.assert_right(program, ("shown", ("price", 8), (LABELS, table, tree)))
        self.assert_right(program, ("broken", ("price", 7), ("more", tree)))
        self.assert_right(program, ("shown", ("stays", program), with_leaf(tree, ("leaf", table))))
        self.assert_right(program, decide(program, ("price", 8)))
        self.assert_right(pairs_program(), decide(pairs_program(), ("price", 7)))


class StaysTest(Checks):
    def test_shown(self):
        leaf = ("leaf", ((0, "reached"),))
        tree = node((0, 1), (0,), leaf, leaf)
        self.assert_right(EXAMPLE, ("shown", ("stays", EXAMPLE), tree))
        self.assert_right((1, (("look", 0),)), ("shown", ("stays", EXAMPLE), leaf))
        self.assert_right((1, (("look", 0),)), ("shown", ("stays", EXAMPLE), tree))
        self.assert_right((1, ()), ("shown", ("stays", EXAMPLE), LEAF))
        # A leaf may stand where a node could, and a node where a leaf could.
        self.assert_right(EXAMPLE, ("shown", ("stays", TWICE), node((0, 1), (0, 0), leaf, leaf)))
        self.assert_right(EXAMPLE, ("shown", ("stays", TWICE), node((2, 3), (1, 0), tree_of(leaf), tree_of(leaf))))

    def test_the_clauses_are_those_of_old(self):
        leaf = ("leaf", ((0, "reached"),))
        self.assert_fault(EXAMPLE, ("shown", ("stays", TAME), node((0, 1), (0,), leaf, leaf)), ("tree", (), "ways"))
        self.assert_fault(TAME, ("shown", ("stays", EXAMPLE), node((0, 1), (0,), leaf, leaf)),
                          ("tree", (1,), ("start",)))
        self.assert_fault(EXAMPLE, ("shown", ("stays", TWICE), node((0, 1), (0,), leaf, leaf)), ("tree", (), "ways"))

    def test_tables_of_the_program_for_what_is_chosen(self):
        leaf = ("leaf", ((0, "reached"),))
        self.assert_fault(EXAMPLE, ("shown", ("stays", EXAMPLE), leaf), ("tree", (), ("start",)))
        stale = ("leaf", ((0, "reached"), (0, "share", 0, 1), (0, "stale", 1)))
        self.assert_fault(EXAMPLE, ("shown", ("stays", EXAMPLE), stale), ("tree", (), ("stale", 2)))
        self.assert_fault(EXAMPLE, ("shown", ("stays", EXAMPLE), node((0, 1), (0,), leaf, stale)),
                          ("tree", (1,), ("stale", 2)))
        right = ("leaf", (AT_LOOP, AT_LOOK))
        for wrong, told in ((LEAF, ("start",)), (("leaf", (AT_LOOP,)), ("step", 0, 0)),
                            (("leaf", (AT_LOOP, AT_LOOK, STALE_LOOK)), ("stale", 2))):
            self.assert_fault(ROUNDS, ("shown", ("stays", EXAMPLE), node((0, 1), (0,), wrong, right)),
                              ("tree", (0,), told))
            self.assert_fault(ROUNDS, ("shown", ("stays", EXAMPLE), node((0, 1), (0,), right, wrong)),
                              ("tree", (1,), told))

    def test_met_and_ways(self):
        leaf = ("leaf", ((0, "reached"),))
        self.assert_fault(EXAMPLE, ("shown", ("stays", EXAMPLE), node((0, 1), (0,), leaf, node((1,), (), leaf))),
                          ("tree", (1,), "met"))
        self.assert_fault(EXAMPLE, ("shown", ("stays", EXAMPLE), node((0, 1), (0,), leaf, node((2,), (0,), leaf))),
                          ("tree", (1,), "ways"))
        self.assert_fault(EXAMPLE, ("shown", ("stays", EXAMPLE), node((0, 1), (0,), LEAF, node((1,), (), leaf))),
                          ("tree", (0,), ("start",)))

    def test_broken(self):
        table = ((0, "reached"), (0, "share", 0, 1))
        self.assert_right(EXAMPLE, ("broken", ("stays", TAME), ((), table, (0,))))
        self.assert_right(EXAMPLE, ("broken", ("stays", TAME), ((5,), table, (0, 2))))
        self.assert_fault(EXAMPLE, ("broken", ("stays", TAME), ((0,), table, (0,))), ("ways",))
        self.assert_fault(EXAMPLE, ("broken", ("stays", TAME), ((), table, ())), ("ways",))
        self.assert_fault(EXAMPLE, ("broken", ("stays", EXAMPLE), ((), table, (0,))), ("start",))
        self.assert_fault(EXAMPLE, ("broken", ("stays", TAME), ((), table[:1], ())), ("start",))
        self.assert_fault(EXAMPLE, ("broken", ("stays", TAME), ((), table + ((0, "stale", 1),), ())), ("stale", 2))
        self.assert_fault(EXAMPLE, ("broken", ("stays", ROUNDS), ((0,), (AT_LOOP,), ())), ("step", 0, 0))

    def test_broken_table_of_old(self):
        old = (4, (("loop", ()), ("look", 3)))
        table = ((0, "reached"), (0, "share", 2, 3), (1, "reached"), (1, "share", 2, 3))
        self.assert_right(EXAMPLE, ("broken", ("stays", old), ((), table, (0,))))
        self.assert_form(old, ("broken", ("stays", EXAMPLE), ((), table, (0,))))

    def test_forms(self):
        table = ((0, "reached"), (0, "share", 0, 1))
        right = ((), table, (0,))
        for told in (None, 0, "", (), [], list(right), right[:2], right + ((),), ([], table, (0,)), ((8,), table, (0,)),
                     ((True,), table, (0,)), ((), list(table), (0,)), ((), table[::-1], (0,)), ((), table, [0]),
                     ((), table, (3,)), ((), table, 0), ((), ((0, "stale", 2),), (0,)), LEAF):
            self.assert_form(EXAMPLE, ("broken", ("stays", TAME), told))


def tree_of(leaf):
    """A tree for stays from TWICE to EXAMPLE, below 2 or 3."""
    return node((0, 1), (0, 0), leaf, leaf)


def with_leaf(tree, leaf):
    """The tree with this leaf in the place of each of its leaves."""
    if tree[0] == "leaf":
        return leaf
    return node(tree[1], tree[2], *[with_leaf(inner, leaf) for inner in tree[3]])


class FormTest(Checks):
    RIGHT = [
        (EXAMPLE, ("shown", ("safe", (0,)), ((0, "reached"),))),
        (EXAMPLE, ("broken", ("safe", ()), (0,))),
        (EXAMPLE, ("shown", ("clause", (0, 1)), (0,))),
        (EXAMPLE, ("broken", ("clause", (1,)), ((0, "reached"),))),
        (TWICE, ("shown", ("price", 2), ((0, 2), TWICE_TABLE, TWICE_TREE))),
        (TWICE, ("broken", ("price", 3), ("less", (0, 2), TWICE_TABLE))),
        (TWICE, ("broken", ("price", 1), ("more", TWICE_TREE))),
        (EXAMPLE, ("shown", ("stays", EXAMPLE), node((0, 1), (0,), ("leaf", ((0, "reached"),)),
                                                     ("leaf", ((0, "reached"),))))),
        (EXAMPLE, ("broken", ("stays", TAME), ((), ((0, "reached"), (0, "share", 0, 1)), (0,)))),
    ]

    def test_right_ones(self):
        for program, certificate in self.RIGHT:
            self.assert_right(program, certificate)

    def test_no_triples(self):
        for value in (None, True, 0, 3, "", "shown", "abc", (), [], {}, ("shown",), ("shown", ("safe", (0,)))):
            self.assert_form(EXAMPLE, value)
        for program, certificate in self.RIGHT:
            self.assert_form(program, list(certificate))
            self.assert_form(program, certificate + ((),))
            self.assert_form(program, certificate[:2])
            self.assert_form(program, certificate[1:])
            self.assert_form(program, {certificate: certificate})

    def test_words(self):
        for program, certificate in self.RIGHT:
            for word in (None, True, 0, "", "Shown", "shown ", "safe", ("shown",), ["broken"]):
                self.assert_form(program, (word,) + certificate[1:])
            other = "broken" if certificate[0] == "shown" else "shown"
            self.assertIsNotNone(first_fault(program, (other,) + certificate[1:]))

    def test_claims(self):
        for program, (word, claim, told) in self.RIGHT:
            for wrong in (None, "safe", (), ("safe",), list(claim), claim + ((),), (claim[0], None), (claim[0], [0]),
                          ("price", True), ("price", 1000), ("price", -1), ("clause", ()), ("safe", (1, 0)),
                          ("safe", (False,)), ("stays", (2, [])), ("stays", None), (["safe"], (0,))):
                self.assert_form(program, (word, wrong, told))

    def test_what_belongs_to_another_claim(self):
        for program, (word, claim, told) in self.RIGHT:
            for _, (other_word, other_claim, other) in self.RIGHT:
                certificate = (word, claim, other)
                self.assertEqual(first_fault(program, certificate), fault(program, certificate))

    def test_each_part_in_another_form(self):
        """A list in the place of each tuple, and a boolean in the place of each 0 and 1, make a fault of form."""
        for program, certificate in self.RIGHT:
            for path in places_in(certificate):
                part = part_at(certificate, path)
                wrong = [None, [part], (part,), {}, "x"]
                if isinstance(part, tuple):
                    wrong = [None, list(part), {}]
                elif part in (0, 1):
                    wrong.append(bool(part))
                for other in wrong:
                    self.assert_form(program, with_part(certificate, path, other))

    def test_deep_and_large_values(self):
        deep = 0
        for k in range(38):
            deep = ((deep,), [deep], {"a": deep}, (0, deep))[k % 4]
        nested = ()
        for _ in range(38):
            nested = (nested,)
        many = tuple(range(10000))
        for value in (deep, nested, many, list(many)):
            self.assert_form(EXAMPLE, value)
            self.assert_form(EXAMPLE, (value, ("safe", ()), ()))
            self.assert_form(EXAMPLE, ("shown", value, ()))
            for claim in (("safe", ()), ("clause", (1,)), ("price", 1), ("stays", TAME)):
                for word in ("shown", "broken"):
                    self.assert_form(EXAMPLE, (word, claim, value))
                    self.assert_form(EXAMPLE, (word, claim, ((), value, value)))
                    self.assert_form(EXAMPLE, (word, claim, ("leaf", value)))
                    self.assert_form(EXAMPLE, (word, claim, ("more", value)))
                    self.assert_form(EXAMPLE, (word, claim, ("node", (0,), value, (LEAF,))))
                    self.assert_form(EXAMPLE, (word, claim, ("more", ("node", (0,), (0,), (value,)))))

    def test_very_large_values(self):
        for value in (tuple(range(190000)), ((0, "reached"),) * 60000, [0] * 190000, ((),) * 190000):
            for claim in (("safe", ()), ("clause", (1,)), ("price", 1), ("stays", TAME), ("safe", value)):
                self.assertEqual(first_fault(EXAMPLE, ("shown", claim, value)), ("form",))
                self.assertEqual(first_fault(EXAMPLE, ("broken", claim, value)), ("form",))
        ways = (0,) * 190000
        self.assertIsNone(first_fault(EXAMPLE, ("broken", ("safe", ()), ways)))
        self.assertIsNone(first_fault(EXAMPLE, ("shown", ("clause", (0, 1)), ways)))
        self.assertEqual(first_fault(EXAMPLE, ("broken", ("safe", (1,)), ways)), ("ways",))
        self.assertEqual(first_fault(EXAMPLE, ("shown", ("safe", (1,)), ways)), ("form",))

    def test_wide_trees_come_soon(self):
        program = pairs_program()

        def wide(chosen, depth):
            left = tuple(label for label in LABELS if label not in chosen)
            if depth == 0:
                return LEAF
            steps = {p: 2 for p in range(8)} | {left[0]: 0, left[1]: 1}
            ways = (0,) + tuple(steps.values()) + (0,)
            return node(left, ways, *[wide(chosen + (label,), depth - 1) for label in left])

        begun = time.perf_counter()
        for depth in (2, 3, 4):
            certificate = ("broken", ("price", depth - 1), ("more", wide((), depth)))
            self.assertIsNone(first_fault(program, certificate))
            self.assertEqual(first_fault(program, certificate, prices=(1,) * 7 + (0,)),
                             fault(program, certificate, (1,) * 7 + (0,)))
        self.assertLess(time.perf_counter() - begun, 8)

    def test_by_name(self):
        self.assertEqual(first_fault(certificate=None, program=EXAMPLE, prices=EVEN), ("form",))
        prices = inspect.signature(first_fault).parameters["prices"]
        self.assertEqual((prices.kind, prices.default), (prices.KEYWORD_ONLY, EVEN))
        with self.assertRaises(TypeError):
            first_fault(EXAMPLE, None, EVEN)


class AnyCertificatesTest(Checks):
    def test_as_the_second_telling_says(self):
        """What decide returns, what is changed in it, and what is of another program or of other prices."""
        rng = random.Random(170)
        kinds = set()
        for _ in range(60):
            program = rng.choice((tangled_program, tangled_program, any_program, looping_program))(rng)
            other, prices = any_other(rng, program), any_prices(rng)
            for claim, holds in any_claims(rng, program, other, prices):
                certificate = decide(program, claim, prices=prices)
                self.assert_fault(program, certificate, None, prices)
                for told in [changed(rng, certificate) for _ in range(4)]:
                    told = changed(rng, told) if isinstance(told, tuple) else told
                    kinds.add(self.assert_as_told(program, told, prices))
                    if first_fault(program, told, prices=prices) is None and told[1] == claim:
                        self.assertEqual(told[0] == "shown", holds)
                kinds.add(self.assert_as_told(other, certificate, prices))
                kinds.add(self.assert_as_told(program, certificate, prices[::-1]))
        self.assertGreaterEqual(kinds, {None, "form", "start", "step", "ways", "price", "tree"})

    def assert_as_told(self, program, certificate, prices):
        told = fault(program, certificate, prices)
        self.assert_fault(program, certificate, told, prices)
        return told and told[0]


if __name__ == "__main__":
    unittest.main()
