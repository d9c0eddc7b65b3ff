"""Facts: how they pass statements, to what they lead, and the least set [2, 9, 10]."""

import copy
import itertools
import random
import unittest

from copyplaces.facts import facts_of, leads, start_facts, ways_to
from copyplaces.programs import require_program, spot_paths, way_count
from tests.second import Run, any_copying, any_program, every_fact, looping_program, open_runs, possible_facts

EXAMPLE = (2, (("give", 0, 1, 0), ("change", 1, 0, 5), ("look", 1)))
ALL = (0, 1, 2, 3, 4, 5, 6, 7)

# How signs pass a statement about the name 0 (that has been given what the name 1 has):
# the sign, and those that it gives. Names 2 and 3 stand for all other ones.
FRESH = {
    ("reached",): [("reached",)],
    ("share", 0, 1): [], ("share", 0, 2): [], ("share", 0, 3): [],
    ("share", 1, 2): [("share", 1, 2)], ("share", 1, 3): [("share", 1, 3)], ("share", 2, 3): [("share", 2, 3)],
    ("stale", 0): [],
    ("stale", 1): [("stale", 1)], ("stale", 2): [("stale", 2)], ("stale", 3): [("stale", 3)],
}
GIVE = {
    ("reached",): [("reached",), ("share", 0, 1)],
    ("share", 0, 1): [], ("share", 0, 2): [], ("share", 0, 3): [],
    ("share", 1, 2): [("share", 1, 2), ("share", 0, 2)], ("share", 1, 3): [("share", 1, 3), ("share", 0, 3)],
    ("share", 2, 3): [("share", 2, 3)],
    ("stale", 0): [],
    ("stale", 1): [("stale", 1), ("stale", 0)], ("stale", 2): [("stale", 2)], ("stale", 3): [("stale", 3)],
}
GIVE_COPIES = {
    ("reached",): [("reached",)],
    ("share", 0, 1): [], ("share", 0, 2): [], ("share", 0, 3): [],
    ("share", 1, 2): [("share", 1, 2)], ("share", 1, 3): [("share", 1, 3)], ("share", 2, 3): [("share", 2, 3)],
    ("stale", 0): [],
    ("stale", 1): [("stale", 1), ("stale", 0)], ("stale", 2): [("stale", 2)], ("stale", 3): [("stale", 3)],
}
CHANGE = {
    ("reached",): [("reached",)],
    ("share", 0, 1): [("share", 0, 1), ("stale", 1)], ("share", 0, 2): [("share", 0, 2), ("stale", 2)],
    ("share", 0, 3): [("share", 0, 3), ("stale", 3)],
    ("share", 1, 2): [("share", 1, 2)], ("share", 1, 3): [("share", 1, 3)], ("share", 2, 3): [("share", 2, 3)],
    ("stale", 0): [("stale", 0)],
    ("stale", 1): [("stale", 1)], ("stale", 2): [("stale", 2)], ("stale", 3): [("stale", 3)],
}
CHANGE_COPIES = {
    ("reached",): [("reached",)],
    ("share", 0, 1): [], ("share", 0, 2): [], ("share", 0, 3): [],
    ("share", 1, 2): [("share", 1, 2)], ("share", 1, 3): [("share", 1, 3)], ("share", 2, 3): [("share", 2, 3)],
    ("stale", 0): [("stale", 0)],
    ("stale", 1): [("stale", 1)], ("stale", 2): [("stale", 2)], ("stale", 3): [("stale", 3)],
}


def renamed(sign, order):
    """The sign with other names, those of a share ascending."""
    return sign[:1] + tuple(sorted(order[x] for x in sign[1:]))


def at(spot, signs):
    return tuple(sorted((spot,) + sign for sign in signs))


class PassingTest(unittest.TestCase):
    def assert_table(self, statement_of, copying, table):
        """Assert the table for the statement, with its names in every order."""
        self.assertEqual(len(table), 11)
        for order in itertools.permutations(range(4)):
            statement = statement_of(order)
            # Spot 0 has two ways, and the statement stands on the second one.
            program = require_program((4, (("choose", ((), (statement,))), ("look", 0))))
            for sign, given in table.items():
                fact = (0,) + renamed(sign, order)
                told = at(1, [renamed(other, order) for other in given])
                self.assertEqual(leads(program, copying, fact, 1), told, (statement, copying, fact))
                self.assertEqual(leads(program, copying, fact, 0), ((1,) + fact[1:],))
            # From the beginning reached alone passes.
            told = at(0, [renamed(other, order) for other in table[("reached",)]])
            self.assertEqual(start_facts((4, (statement, ("look", 0))), copying), told)

    def test_fresh(self):
        for copying in ((), (0,), ALL):
            self.assert_table(lambda order: ("fresh", order[0]), copying, FRESH)

    def test_give_without_its_label(self):
        for label in range(8):
            for copying in ((), tuple(other for other in ALL if other != label)):
                self.assert_table(lambda order: ("give", label, order[0], order[1]), copying, GIVE)

    def test_give_with_its_label(self):
        for label in range(8):
            for copying in ((label,), ALL):
                self.assert_table(lambda order: ("give", label, order[0], order[1]), copying, GIVE_COPIES)

    def test_change_without_its_label(self):
        for label in range(8):
            for copying in ((), tuple(other for other in ALL if other != label)):
                self.assert_table(lambda order: ("change", label, order[0], 9 - label), copying, CHANGE)

    def test_change_with_its_label(self):
        for label in range(8):
            for copying in ((label,), ALL):
                self.assert_table(lambda order: ("change", label, order[0], 0), copying, CHANGE_COPIES)

    def test_only_the_label_counts_and_no_other_number(self):
        # The names, the mark and the index of the statement are in the copying, its label is not.
        program = (4, (("look", 0), ("give", 5, 1, 0), ("change", 6, 0, 2), ("look", 0)))
        self.assertEqual(leads(program, (0, 1, 2, 3), (0, "reached"), 0),
                         ((1, "reached"), (1, "share", 0, 1), (1, "stale", 1)))


class LeadsTest(unittest.TestCase):
    def assert_leads(self, program, copying, fact, way, told):
        require_program(program)
        kept = copy.deepcopy((program, copying, fact))
        self.assertEqual(leads(program, copying, fact, way), told, (copying, fact, way))
        self.assertEqual((program, copying, fact), kept)

    def test_statements_are_passed_in_order(self):
        give, change = ("give", 0, 1, 0), ("change", 1, 0, 5)
        for block, told in (((give, change), ("reached", "share", "stale")), ((change, give), ("reached", "share")),
                            ((give, change, ("fresh", 1)), ("reached",)), ((give, ("fresh", 0), change), ("reached",)),
                            ((give, change, ("fresh", 0)), ("reached", "stale"))):
            facts = leads((2, (("look", 0),) + block + (("look", 0),)), (), (0, "reached"), 0)
            self.assertEqual(tuple(fact[1] for fact in facts), told, block)

    def test_a_give_and_a_change_with_one_label(self):
        program = (3, (("look", 0), ("give", 2, 1, 0), ("give", 3, 2, 1), ("change", 2, 2, 5), ("look", 0)))
        self.assert_leads(program, (), (0, "reached"), 0, (
            (1, "reached"), (1, "share", 0, 1), (1, "share", 0, 2), (1, "share", 1, 2), (1, "stale", 0),
            (1, "stale", 1)))
        self.assert_leads(program, (2,), (0, "reached"), 0, ((1, "reached"),))
        self.assert_leads(program, (3,), (0, "reached"), 0, ((1, "reached"), (1, "share", 0, 1)))

    def test_several_signs_come_to_one(self):
        # Both the sharing that lasts and the one that is made anew tell the same at the look.
        program = (3, (("look", 0), ("give", 0, 1, 0), ("give", 0, 2, 1), ("give", 0, 1, 2), ("look", 0)))
        self.assert_leads(program, (), (0, "reached"), 0, (
            (1, "reached"), (1, "share", 0, 1), (1, "share", 0, 2), (1, "share", 1, 2)))

    def test_none_if_the_program_ends(self):
        program = (2, (("look", 0), ("loop", (("give", 0, 1, 0),)), ("change", 0, 0, 1)))
        for sign in (("reached",), ("share", 0, 1), ("stale", 0), ("stale", 1)):
            self.assert_leads(program, (), (1,) + sign, 1, ())
            self.assert_leads(program, (), (0,) + sign, 0, ((1,) + sign,))
        self.assertEqual(leads(EXAMPLE, (), (0, "reached"), 0), ())

    def test_each_way_of_a_spot(self):
        blocks = ((("fresh", 0),), (("give", 0, 0, 1),), (("change", 0, 0, 1),))
        program = (2, (("choose", blocks), ("loop", (("look", 1), ("fresh", 1)))))
        share = (0, "share", 0, 1)
        for copying in ((), (0,)):
            self.assert_leads(program, copying, share, 0, ())
            self.assert_leads(program, copying, share, 1, ())
            self.assert_leads(program, copying, (0, "reached"), 0, ((1, "reached"),))
            self.assert_leads(program, copying, (0, "reached"), 2, ((1, "reached"),))
        self.assert_leads(program, (), share, 2, ((1, "share", 0, 1), (1, "stale", 1)))
        self.assert_leads(program, (0,), share, 2, ())
        self.assert_leads(program, (), (0, "reached"), 1, ((1, "reached"), (1, "share", 0, 1)))
        self.assert_leads(program, (0,), (0, "reached"), 1, ((1, "reached"),))
        self.assert_leads(program, (), (1, "share", 0, 1), 0, ((2, "share", 0, 1),))
        self.assert_leads(program, (), (2, "share", 0, 1), 0, ())
        self.assert_leads(program, (), (2, "stale", 0), 0, ((1, "stale", 0),))
        self.assert_leads(program, (), (2, "stale", 1), 0, ())
        self.assert_leads(program, (), (1, "stale", 0), 1, ())

    def test_facts_that_no_run_has(self):
        program = (4, (("look", 0), ("change", 1, 2, 5), ("give", 2, 3, 0), ("look", 0)))
        self.assertEqual(facts_of(program, (2,)), ((0, "reached"), (1, "reached")))
        self.assert_leads(program, (2,), (0, "share", 1, 2), 0, ((1, "share", 1, 2), (1, "stale", 1)))
        self.assert_leads(program, (2,), (0, "share", 2, 3), 0, ())
        self.assert_leads(program, (), (0, "share", 0, 2), 0, (
            (1, "share", 0, 2), (1, "share", 2, 3), (1, "stale", 0), (1, "stale", 3)))
        self.assert_leads(program, (1, 2), (0, "stale", 0), 0, ((1, "stale", 0), (1, "stale", 3)))
        self.assert_leads(program, (), (0, "stale", 3), 0, ())

    def test_by_name_and_kinds(self):
        told = leads(way=0, fact=(0, "reached"), copying=(), program=(1, (("look", 0), ("look", 0))))
        self.assertEqual(told, ((1, "reached"),))
        self.assertEqual({type(value) for value in (told, told[0], leads(EXAMPLE, (), (0, "reached"), 0))}, {tuple})

    def test_what_holds_in_runs_leads_as_runs_go(self):
        """One statement after the other: what is told of a run behind the next spot."""
        rng = random.Random(9)
        for _ in range(150):
            program = any_program(rng, 14, 5)
            copying = any_copying(rng)
            for run in open_runs(program, copying):
                spot = run.end[1]
                for way in range(way_count(program, spot)):
                    told = {other for fact in run.facts() for other in leads(program, copying, fact, way)}
                    further = Run(program, copying, run.taken + (way,))
                    facts = further.facts() if further.end[0] == "open" else []
                    self.assertEqual(told, set(facts), (program, copying, run.taken, way))


class FactsTest(unittest.TestCase):
    def assert_facts(self, program, copying, facts):
        require_program(program)
        kept = copy.deepcopy((program, copying))
        self.assertEqual(facts_of(program, copying), facts)
        self.assert_ways(program, copying, facts)
        self.assertEqual((program, copying), kept)

    def assert_ways(self, program, copying, facts):
        """Assert that there are good ways to these possible facts, and to no others."""
        for fact in possible_facts(program):
            ways = ways_to(program, copying, fact)
            if fact not in facts:
                self.assertIsNone(ways, (program, copying, fact))
                continue
            self.assertIs(type(ways), tuple)
            self.assertLessEqual(len(ways), 132)
            run = Run(program, copying, ways)
            self.assertEqual(run.end, ("open", fact[0]), (program, copying, fact))
            self.assertIn(fact, run.facts(), (program, copying, ways))

    def test_example(self):
        self.assertEqual((facts_of(EXAMPLE, ()), facts_of(EXAMPLE, (1,))),
                         (((0, "reached"), (0, "share", 0, 1), (0, "stale", 1)), ((0, "reached"),)))

    def test_by_name_and_kinds(self):
        self.assertEqual(start_facts(copying=(1,), program=EXAMPLE), ((0, "reached"),))
        self.assertEqual(facts_of(copying=(1,), program=EXAMPLE), ((0, "reached"),))
        self.assertEqual(ways_to(fact=(0, "reached"), copying=(), program=EXAMPLE), ())
        for told in (start_facts(EXAMPLE, ()), facts_of(EXAMPLE, ())):
            self.assertEqual({type(value) for value in (told,) + told}, {tuple})

    def test_start_facts(self):
        self.assertEqual(start_facts(EXAMPLE, ()), ((0, "reached"), (0, "share", 0, 1), (0, "stale", 1)))
        self.assertEqual(start_facts(EXAMPLE, (0,)), ((0, "reached"),))
        self.assertEqual(start_facts((4, (("loop", ()), ("give", 0, 1, 0))), ()), ((0, "reached"),))

    def test_no_start_facts_if_the_program_ends(self):
        for block in ((), EXAMPLE[1][:2]):
            self.assertEqual(start_facts((2, block), ()), ())
            self.assertEqual(facts_of((2, block), ()), ())

    def test_the_names_of_a_share_ascend(self):
        self.assert_facts((4, (("give", 0, 0, 3), ("give", 0, 2, 0), ("look", 1))), (), (
            (0, "reached"), (0, "share", 0, 2), (0, "share", 0, 3), (0, "share", 2, 3)))

    def test_rounds_of_a_loop(self):
        program = (3, (("loop", (("change", 0, 0, 1), ("give", 1, 2, 1), ("look", 1), ("give", 2, 1, 0))),))
        self.assert_facts(program, (), (
            (0, "reached"), (0, "share", 0, 1), (0, "share", 0, 2), (0, "share", 1, 2), (0, "stale", 2),
            (1, "reached"), (1, "share", 0, 1), (1, "share", 0, 2), (1, "share", 1, 2), (1, "stale", 1),
            (1, "stale", 2)))
        self.assert_facts(program, (2,), ((0, "reached"), (1, "reached"), (1, "share", 1, 2)))
        self.assert_facts(program, (0,), (
            (0, "reached"), (0, "share", 0, 1), (1, "reached"), (1, "share", 1, 2)))
        # The sharing of the first round is changed in the second one.
        self.assertEqual(ways_to(program, (), (1, "stale", 1)), (0, 0, 0))

    def test_a_fact_of_one_way_only(self):
        program = (2, (("choose", ((("give", 0, 1, 0),), ())), ("change", 1, 1, 4), ("look", 0)))
        self.assert_facts(program, (), ((0, "reached"), (1, "reached"), (1, "share", 0, 1), (1, "stale", 0)))
        self.assert_facts(program, (0,), ((0, "reached"), (1, "reached")))
        self.assertEqual(ways_to(program, (), (1, "stale", 0)), (0,))
        self.assertIn(ways_to(program, (), (1, "reached")), ((0,), (1,)))
        self.assertIsNone(ways_to(program, (), (0, "stale", 0)))

    def test_there_may_be_132(self):
        statements = (("give", 0, 1, 0), ("give", 1, 2, 0), ("give", 2, 3, 0), ("change", 3, 0, 1), ("change", 3, 1, 1))
        looks = (("look", 0),) * 7 + (("loop", (("look", 1),)),)
        program = (4, statements + (("loop", looks), ("look", 2), ("look", 3)))
        self.assertEqual(len(spot_paths(program)), 12)
        facts = tuple(sorted(possible_facts(program)))
        self.assertEqual(len(facts), 132)
        self.assert_facts(program, (), facts)
        self.assert_facts(program, (3,), tuple(
            fact for fact in facts if fact[1] == "reached" or fact[1] == "share" and fact[2] > 1))

    def test_ways_of_many_rounds(self):
        # What is stale goes on to the next name once in each round, and each round has many spots.
        three = (("look", 0),) * 3
        rounds = (("give", 7, 3, 2), ("give", 7, 2, 1), ("give", 7, 1, 0)) + (("look", 0),) * 4
        program = (4, (("give", 0, 1, 0), ("change", 1, 1, 5), ("fresh", 1),
                       ("loop", rounds + (("choose", (three, three)),))))
        self.assertEqual(len(spot_paths(program)), 12)
        facts = every_fact(program, (7,))
        self.assertIn((11, "stale", 3), facts)
        self.assert_facts(program, (7,), facts)
        self.assertEqual(len(ways_to(program, (7,), (11, "stale", 3))), 26)

    def test_the_least_set(self):
        """Nothing of a set of facts that lead to each other alone is a fact."""
        program = (2, (("loop", (("look", 0),)),))
        for sign in (("share", 0, 1), ("stale", 0), ("stale", 1)):
            self.assertEqual(leads(program, (), (0,) + sign, 0), ((1,) + sign,))
            self.assertEqual(leads(program, (), (1,) + sign, 0), ((0,) + sign,))
        self.assert_facts(program, (), ((0, "reached"), (1, "reached")))

    def test_as_all_runs_say(self):
        rng = random.Random(10)
        for _ in range(300):
            program = require_program(rng.choice((any_program(rng, 20, 8), looping_program(rng))))
            copying = rng.choice(((), any_copying(rng)))
            self.assert_facts(program, copying, every_fact(program, copying))

    def test_big_programs(self):
        rng = random.Random(1010)
        for _ in range(60):
            program = require_program(any_program(rng))
            copying = any_copying(rng)
            facts = facts_of(program, copying)
            self.assertLessEqual(len(facts), 132)
            self.assert_closed(program, copying, facts)
            self.assert_ways(program, copying, facts)

    def assert_closed(self, program, copying, facts):
        self.assertEqual(facts, tuple(sorted(set(facts))))
        self.assertLessEqual(set(start_facts(program, copying)), set(facts))
        for fact in facts:
            for way in range(way_count(program, fact[0])):
                self.assertLessEqual(set(leads(program, copying, fact, way)), set(facts))


if __name__ == "__main__":
    unittest.main()
