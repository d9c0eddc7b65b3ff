"""Bonds, reasons, and clauses [2, 12, 13]."""

import copy
import random
import unittest

from copyplaces.clauses import bonds, is_clause, read_clause, reasons, thinned
from copyplaces.errors import NotAClause, NotBreaking
from copyplaces.programs import require_program
from copyplaces.safety import breaking
from tests.judged import LABELS, Graph, all_copyings, breaks, others
from tests.second import Run, any_copying, any_program, any_ways, looping_program, pairs_program, tangled_program

EXAMPLE = (2, (("give", 0, 1, 0), ("change", 1, 0, 5), ("look", 1)))
# Behind these three, 0, 1 and 2 share, and 1 and 2 are stale.
SHARED = (("give", 0, 1, 0), ("give", 1, 2, 1), ("change", 2, 0, 5))


class TiedRun(Run):
    """A second telling of bonds and reasons: sets of labels, kept along a run as point 13 says."""

    def __init__(self, program, copying, ways):
        self.bond = {}
        self.reason = {}
        self.first = None
        Run.__init__(self, program, copying, ways)

    def part(self, x):
        for pair in [pair for pair in self.bond if x in pair]:
            del self.bond[pair]

    def fresh(self, path, x):
        Run.fresh(self, path, x)
        self.part(x)
        self.reason.pop(x, None)

    def give(self, path, label, x, y):
        Run.give(self, path, label, x, y)
        self.part(x)
        self.reason[x] = self.reason.get(y)
        if not self.reason[x]:
            del self.reason[x]
        if label not in self.copying:
            for z in range(len(self.real)):
                if z not in (x, y) and frozenset((y, z)) in self.bond:
                    self.bond[frozenset((x, z))] = self.bond[frozenset((y, z))] | {label}
            self.bond[frozenset((x, y))] = {label}

    def change(self, path, label, x, mark):
        Run.change(self, path, label, x, mark)
        if label in self.copying:
            self.part(x)
            return
        for z in range(len(self.real)):
            pair = frozenset((x, z))
            if pair in self.bond:
                if z not in self.reason:
                    self.reason[z] = self.bond[pair] | {label}
                self.bond[pair] = self.bond[pair] | {label}

    def look(self, path, x):
        Run.look(self, path, x)
        if self.first is None and self.shown != self.shown_shared:
            self.first = tuple(sorted(self.reason[x]))

    def told_bonds(self):
        return sorted((tuple(sorted(pair)), tuple(sorted(labels))) for pair, labels in self.bond.items())

    def told_reasons(self):
        return sorted((x, tuple(sorted(labels))) for x, labels in self.reason.items())


class TiesTest(unittest.TestCase):
    def assert_behind(self, block, copying, told_bonds, told_reasons, names=4, ways=()):
        program = require_program((names, block))
        self.assertEqual(list(bonds(program, copying, ways).items()), list(told_bonds.items()), (program, copying))
        self.assertEqual(list(reasons(program, copying, ways).items()), list(told_reasons.items()), (program, copying))

    def test_example(self):
        self.assert_behind(EXAMPLE[1], (), {(0, 1): (0, 1)}, {1: (0, 1)}, names=2)
        self.assert_behind(EXAMPLE[1], (0,), {}, {}, names=2)
        self.assert_behind(EXAMPLE[1], (1,), {}, {}, names=2)

    def test_at_first_there_are_none(self):
        self.assert_behind((), (), {}, {})
        self.assert_behind((("look", 0),) + SHARED, (), {}, {})
        self.assert_behind((), (), {}, {}, names=1)

    def test_gives_and_changes_that_do_not_copy(self):
        self.assert_behind(SHARED[:1], (), {(0, 1): (0,)}, {})
        self.assert_behind(SHARED[:2], (), {(0, 1): (0,), (0, 2): (0, 1), (1, 2): (1,)}, {})
        self.assert_behind(SHARED, (), {(0, 1): (0, 2), (0, 2): (0, 1, 2), (1, 2): (1,)}, {1: (0, 2), 2: (0, 1, 2)})

    def test_fresh(self):
        self.assert_behind(SHARED + (("fresh", 1),), (), {(0, 2): (0, 1, 2)}, {2: (0, 1, 2)})
        self.assert_behind(SHARED + (("fresh", 0),), (), {(1, 2): (1,)}, {1: (0, 2), 2: (0, 1, 2)})
        self.assert_behind(SHARED + (("fresh", 3),), (),
                           {(0, 1): (0, 2), (0, 2): (0, 1, 2), (1, 2): (1,)}, {1: (0, 2), 2: (0, 1, 2)})

    def test_a_give_that_copies(self):
        """Its label is in nothing that it gives."""
        self.assert_behind(SHARED + (("give", 7, 1, 3),), (7,), {(0, 2): (0, 1, 2)}, {2: (0, 1, 2)})
        self.assert_behind(SHARED + (("give", 7, 3, 1),), (7,), {(0, 1): (0, 2), (0, 2): (0, 1, 2), (1, 2): (1,)},
                           {1: (0, 2), 2: (0, 1, 2), 3: (0, 2)})
        self.assert_behind(SHARED + (("give", 7, 1, 2),), (7,), {(0, 2): (0, 1, 2)}, {1: (0, 1, 2), 2: (0, 1, 2)})

    def test_a_give_that_shares(self):
        self.assert_behind(SHARED + (("give", 6, 3, 1),), (),
                           {(0, 1): (0, 2), (0, 2): (0, 1, 2), (0, 3): (0, 2, 6),
                            (1, 2): (1,), (1, 3): (6,), (2, 3): (1, 6)},
                           {1: (0, 2), 2: (0, 1, 2), 3: (0, 2)})
        self.assert_behind(SHARED + (("give", 6, 1, 3),), (), {(0, 2): (0, 1, 2), (1, 3): (6,)}, {2: (0, 1, 2)})
        self.assert_behind(SHARED + (("give", 6, 3, 0),), (),
                           {(0, 1): (0, 2), (0, 2): (0, 1, 2), (0, 3): (6,),
                            (1, 2): (1,), (1, 3): (0, 2, 6), (2, 3): (0, 1, 2, 6)},
                           {1: (0, 2), 2: (0, 1, 2)})

    def test_a_give_to_a_name_that_shares_already(self):
        self.assert_behind(SHARED + (("give", 6, 1, 0),), (),
                           {(0, 1): (6,), (0, 2): (0, 1, 2), (1, 2): (0, 1, 2, 6)}, {2: (0, 1, 2)})
        self.assert_behind(SHARED + (("give", 6, 0, 1),), (),
                           {(0, 1): (6,), (0, 2): (1, 6), (1, 2): (1,)}, {0: (0, 2), 1: (0, 2), 2: (0, 1, 2)})

    def test_a_change_that_copies(self):
        self.assert_behind(SHARED + (("change", 7, 1, 5),), (7,), {(0, 2): (0, 1, 2)}, {1: (0, 2), 2: (0, 1, 2)})
        self.assert_behind(SHARED[:2] + (("change", 7, 0, 5),), (7,), {(1, 2): (1,)}, {})

    def test_a_change_that_does_not_copy(self):
        """Who is stale keeps the reason; the label comes into the bonds of the name alone."""
        self.assert_behind(SHARED + (("change", 7, 1, 5),), (),
                           {(0, 1): (0, 2, 7), (0, 2): (0, 1, 2), (1, 2): (1, 7)},
                           {0: (0, 2, 7), 1: (0, 2), 2: (0, 1, 2)})
        self.assert_behind(SHARED + (("change", 7, 3, 5),), (),
                           {(0, 1): (0, 2), (0, 2): (0, 1, 2), (1, 2): (1,)}, {1: (0, 2), 2: (0, 1, 2)})

    def test_a_label_that_stands_often(self):
        self.assert_behind((("give", 3, 1, 0), ("change", 3, 1, 0), ("give", 3, 2, 1)), (),
                           {(0, 1): (3,), (0, 2): (3,), (1, 2): (3,)}, {0: (3,)})

    def test_ends_and_ways_left_over(self):
        block = SHARED[:1] + (("choose", (SHARED[2:], ())),) + (("look", 1),) + (("fresh", 1),)
        shared, stale = {(0, 1): (0,)}, {(0, 1): (0, 2)}
        self.assert_behind(block, (), shared, {})
        self.assert_behind(block, (), shared, {}, ways=(2,))
        self.assert_behind(block, (), shared, {}, ways=(1,))
        for ways in ((0,), (0, 1), (0, 2, 0), (0, 1, 0, 0)):
            self.assert_behind(block, (), stale, {1: (0, 2)}, ways=ways)
        for ways in ((0, 0), (0, 0, 1), (0, 0, 0, 2, 1)):
            self.assert_behind(block, (), {}, {}, ways=ways)

    def test_by_name_and_new_dicts(self):
        for asked in (bonds, reasons):
            told = asked(ways=(), copying=(), program=EXAMPLE)
            self.assertIs(type(told), dict)
            told[9] = ()
            self.assertEqual(len(asked(EXAMPLE, (), ())), 1)

    def test_many_rounds(self):
        program = (4, SHARED + (("loop", ()), ("loop", (("give", 7, 3, 2), ("give", 6, 2, 3)))))
        ways = (0,) * 400 + (1,) + (0,) * 400
        run = TiedRun(program, (), ways)
        self.assertEqual(list(bonds(program, (), ways).items()), run.told_bonds())
        self.assertEqual(list(reasons(program, (), ways).items()), run.told_reasons())

    def test_any_runs(self):
        rng = random.Random(13)
        for _ in range(600):
            program = require_program(rng.choice((any_program, tangled_program, looping_program))(rng))
            copying, ways = rng.choice(((), any_copying(rng))), any_ways(rng, program, 25)
            kept = copy.deepcopy((program, copying, ways))
            run = TiedRun(program, copying, ways)
            told = (bonds(program, copying, ways), reasons(program, copying, ways))
            self.assertEqual((program, copying, ways), kept)
            self.assertEqual([list(one.items()) for one in told], [run.told_bonds(), run.told_reasons()],
                             (program, copying, ways))
            self.assert_true(run, copying, *told)

    def assert_true(self, run, copying, told_bonds, told_reasons):
        """Bonds for what shares, reasons for what is stale, and no label of the copying."""
        least = run.least()
        self.assertEqual(list(told_bonds), [(x, y) for x in range(len(least)) for y in range(x + 1, len(least))
                                            if least[x] == least[y]])
        self.assertEqual(tuple(told_reasons), run.stale())
        for labels in list(told_bonds.values()) + list(told_reasons.values()):
            self.assertIs(type(labels), tuple)
            self.assertEqual(list(labels), sorted(set(labels)))
            self.assertTrue(labels and not set(labels) & set(copying))


class ReadClauseTest(unittest.TestCase):
    def assert_not_breaking(self, program, copying, ways):
        with self.assertRaises(NotBreaking):
            read_clause(program, copying, ways)

    def test_example(self):
        self.assertEqual(read_clause(EXAMPLE, (), (0,)), (0, 1))
        self.assertEqual(read_clause(ways=(0, 2, 1), copying=(5,), program=EXAMPLE), (0, 1))

    def test_not_breaking(self):
        for copying, ways in (((), ()), ((), (1,)), ((0,), (0,)), ((1, 7), (0,)), ((), (2, 0))):
            self.assert_not_breaking(EXAMPLE, copying, ways)
        self.assert_not_breaking((2, EXAMPLE[1][:2]), (), (0,))
        self.assert_not_breaking((2, EXAMPLE[1][:2] + (("look", 0), ("fresh", 1), ("look", 1))), (), (0, 0))

    def test_the_first_of_two_differences(self):
        program = (4, SHARED + (("look", 0), ("look", 2), ("look", 1)))
        self.assertEqual(read_clause(program, (), (0, 0)), (0, 1, 2))
        self.assertEqual(read_clause(program, (), (0, 0, 0)), (0, 1, 2))
        self.assertEqual(read_clause(program, (1,), (0, 0, 0)), (0, 2))
        self.assert_not_breaking(program, (), (0,))
        self.assert_not_breaking(program, (1,), (0, 0))

    def test_the_reason_at_the_look(self):
        """What comes behind the look counts no more, and neither do reasons that went before it."""
        block = SHARED + (("fresh", 1), ("give", 5, 1, 2), ("look", 1), ("fresh", 1), ("give", 6, 1, 0))
        self.assertEqual(read_clause((4, block), (), (0,)), (0, 1, 2))
        self.assertEqual(read_clause((4, block), (5,), (0,)), (0, 1, 2))
        block = SHARED + (("fresh", 1), ("give", 5, 1, 0), ("change", 6, 0, 1), ("look", 1))
        self.assertEqual(read_clause((4, block), (), (0,)), (5, 6))

    def test_many_rounds(self):
        program = (2, EXAMPLE[1][:2] + (("loop", ()), ("look", 1)))
        self.assertEqual(read_clause(program, (), (0,) * 700 + (1, 0)), (0, 1))
        self.assert_not_breaking(program, (), (0,) * 700)

    def test_any_runs(self):
        rng = random.Random(14)
        read = 0
        for _ in range(900):
            program = require_program(rng.choice((any_program, tangled_program))(rng))
            copying, ways = rng.choice(((), any_copying(rng))), any_ways(rng, program, 25)
            if rng.random() < 0.5:
                ways = (breaking(program, copying) or ()) + ways
            if not breaks(program, copying, ways):
                self.assert_not_breaking(program, copying, ways)
                continue
            read += 1
            clause = read_clause(program, copying, ways)
            self.assertEqual(clause, TiedRun(program, copying, ways).first, (program, copying, ways))
            self.assertFalse(set(clause) & set(copying))
            self.assertTrue(breaks(program, others(clause), ways), (program, copying, ways))
            self.assertIs(is_clause(program, clause), True)
        self.assertGreater(read, 150)


class ClauseTest(unittest.TestCase):
    def assert_thinned(self, program, some, told):
        kept = copy.deepcopy((program, some))
        self.assertEqual(thinned(program, some), told, (program, some))
        self.assertEqual((program, some), kept)

    def assert_no_clause(self, program, some):
        self.assertIs(is_clause(program, some), False)
        with self.assertRaises(NotAClause) as caught:
            thinned(program, some)
        self.assertEqual(caught.exception.some, some)

    def test_example(self):
        for some in all_copyings():
            if {0, 1} <= set(some):
                self.assertIs(is_clause(EXAMPLE, some), True, some)
                self.assert_thinned(EXAMPLE, some, (0, 1))
            else:
                self.assert_no_clause(EXAMPLE, some)

    def test_by_name(self):
        self.assertIs(is_clause(some=(0, 1), program=EXAMPLE), True)
        self.assertEqual(thinned(some=(0, 1, 5), program=EXAMPLE), (0, 1))

    def test_no_clause_where_all_is_safe(self):
        for program in ((1, ()), (2, EXAMPLE[1][:2]), (2, (("give", 0, 1, 0), ("look", 1)))):
            for some in ((), (0,), (1,), LABELS):
                self.assert_no_clause(program, some)

    def test_labels_are_left_out_ascending(self):
        ways = ((("give", 0, 1, 0), ("change", 1, 0, 1)), (("give", 1, 1, 0), ("change", 2, 0, 1)),
                (("give", 2, 1, 0), ("change", 3, 0, 1)))
        program = (2, (("choose", ways), ("look", 1)))
        self.assert_thinned(program, (0, 1, 2, 3), (2, 3))
        self.assert_thinned(program, (0, 1, 2), (1, 2))
        self.assert_thinned(program, (0, 1, 3, 6), (0, 1))
        self.assert_thinned(program, LABELS, (2, 3))
        self.assert_no_clause(program, (0, 2, 5))
        # What could not be left out at its turn is not tried once more.
        self.assert_thinned((2, (("give", 4, 1, 0), ("change", 4, 0, 1), ("look", 1))), LABELS, (4,))

    def test_all_pairs(self):
        program = require_program(pairs_program())
        for some in all_copyings():
            if len(some) < 2:
                self.assert_no_clause(program, some)
            else:
                self.assertIs(is_clause(program, some), True)
        self.assert_thinned(program, LABELS, (6, 7))
        self.assert_thinned(program, (1, 4, 5), (4, 5))

    def test_as_all_copyings_say(self):
        rng = random.Random(12)
        for _ in range(8):
            program = require_program(tangled_program(rng))
            graph = Graph(program)
            safe = [set(copying) for copying in all_copyings() if graph.safe(copying)]
            clauses = {some for some in all_copyings() if some and all(copying & set(some) for copying in safe)}
            for some in all_copyings():
                if some not in clauses:
                    self.assert_no_clause(program, some)
                    continue
                self.assertIs(is_clause(program, some), True)
                left = some
                for label in some:
                    fewer = tuple(other for other in left if other != label)
                    left = fewer if fewer in clauses else left
                self.assert_thinned(program, some, left)


if __name__ == "__main__":
    unittest.main()
