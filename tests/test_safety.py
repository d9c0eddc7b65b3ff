"""Safe copyings, and ways that break the others [2, 11]."""

import copy
import random
import unittest

from copyplaces.facts import facts_of
from copyplaces.programs import require_program
from copyplaces.safety import breaking, is_safe
from copyplaces.sharing import run_shared
from copyplaces.values import run
from tests.second import Run, any_copying, any_program, look_names, looping_program, open_runs

EXAMPLE = (2, (("give", 0, 1, 0), ("change", 1, 0, 5), ("look", 1)))
ALL = (0, 1, 2, 3, 4, 5, 6, 7)


def copyings():
    return [tuple(label for label in ALL if mask >> label & 1) for mask in range(256)]


class SafetyTest(unittest.TestCase):
    def assert_safe(self, program, copying):
        require_program(program)
        kept = copy.deepcopy((program, copying))
        self.assertIs(is_safe(program, copying), True, (program, copying))
        self.assertIsNone(breaking(program, copying), (program, copying))
        self.assertEqual((program, copying), kept)

    def assert_broken(self, program, copying):
        require_program(program)
        kept = copy.deepcopy((program, copying))
        self.assertIs(is_safe(program, copying), False, (program, copying))
        ways = breaking(program, copying)
        self.assertIs(type(ways), tuple)
        self.assertLessEqual(len(ways), 132)
        self.assertLessEqual(set(ways), {0, 1, 2})
        self.assertNotEqual(run(program, ways), run_shared(program, copying, ways), (program, copying, ways))
        second = Run(program, copying, ways)
        self.assertNotEqual(second.shown, second.shown_shared, (program, copying, ways))
        self.assertEqual((program, copying), kept)

    def assert_as_told(self, program, copying, safe):
        if safe:
            self.assert_safe(program, copying)
        else:
            self.assert_broken(program, copying)

    def test_example(self):
        self.assertEqual((is_safe(EXAMPLE, (1,)), breaking(EXAMPLE, ())), (True, (0,)))
        for copying in copyings():
            self.assert_as_told(EXAMPLE, copying, 0 in copying or 1 in copying)

    def test_by_name(self):
        self.assertIs(is_safe(copying=(), program=EXAMPLE), False)
        self.assertEqual(breaking(copying=(), program=EXAMPLE), (0,))
        self.assertIsNone(breaking(copying=(0,), program=EXAMPLE))

    def test_only_the_looked_at_name_counts(self):
        block = (("give", 0, 1, 0), ("change", 1, 0, 5))
        self.assert_safe((2, block + (("look", 0),)), ())
        self.assert_broken((2, block + (("look", 1),)), ())
        self.assert_broken((2, block + (("look", 0), ("look", 1))), ())
        self.assertEqual(breaking((2, block + (("look", 0), ("look", 1))), ()), (0, 0))
        # Stale at a look of the other name, at a choice and at a loop, but shown by none.
        self.assert_safe((2, block + (("look", 0), ("choose", ((), ())), ("loop", ()), ("fresh", 1), ("look", 1))), ())

    def test_sharing_alone_breaks_nothing(self):
        self.assert_safe((3, (("give", 0, 1, 0), ("give", 0, 2, 0), ("look", 0), ("look", 1), ("look", 2))), ())
        self.assert_safe((2, (("change", 0, 0, 1), ("give", 0, 1, 0), ("look", 1), ("change", 0, 0, 1))), ())

    def test_programs_without_looks(self):
        for block in ((), EXAMPLE[1][:2], EXAMPLE[1][:2] + (("choose", ((), ())), ("loop", ()))):
            for copying in ((), (0,), ALL):
                self.assert_safe((2, block), copying)

    def test_a_look_that_is_come_to_by_one_way_only(self):
        blocks = ((("look", 0),), (("fresh", 1), ("look", 1)), (("look", 1),))
        program = (2, EXAMPLE[1][:2] + (("choose", blocks),))
        self.assert_broken(program, ())
        self.assertEqual(breaking(program, ()), (2, 0))
        self.assert_safe(program, (0,))
        self.assert_safe((2, EXAMPLE[1][:2] + (("choose", blocks[:2]),)), ())

    def test_a_second_round(self):
        program = (2, (("loop", (("change", 1, 0, 5), ("look", 1), ("give", 0, 1, 0))),))
        self.assert_broken(program, ())
        self.assertEqual(breaking(program, ()), (0, 0, 0, 0))
        self.assert_safe(program, (0,))
        self.assert_safe(program, (1,))

    def test_labels_that_do_not_stand(self):
        self.assert_broken(EXAMPLE, (2, 3, 4, 5, 6, 7))
        self.assert_safe(EXAMPLE, (1, 7))

    def test_breaking_many_rounds_on(self):
        three = (("choose", ((), ())),) * 3
        rounds = (("give", 7, 3, 2), ("give", 7, 2, 1), ("give", 7, 1, 0)) + three
        program = (4, (("give", 0, 1, 0), ("change", 1, 1, 5), ("fresh", 1),
                       ("loop", rounds + (("choose", (three, three + (("look", 3),))),))))
        self.assert_broken(program, (7,))
        self.assert_safe(program, (1,))
        self.assertEqual(len(breaking(program, (7,))), 25)

    def test_as_all_runs_say(self):
        rng = random.Random(11)
        told = {True: 0, False: 0}
        for _ in range(400):
            program = rng.choice((any_program(rng, 20, 8), looping_program(rng)))
            copying = rng.choice(((), any_copying(rng)))
            looks = look_names(program)
            safe = all(looks.get(run.end[1]) not in run.stale() for run in open_runs(program, copying))
            self.assert_as_told(program, copying, safe)
            told[safe] += 1
        self.assertGreater(min(told.values()), 50)

    def test_safe_exactly_if_no_look_has_the_fact(self):
        rng = random.Random(1111)
        for _ in range(300):
            program = rng.choice((any_program(rng), looping_program(rng)))
            copying = rng.choice(((), any_copying(rng)))
            facts = facts_of(program, copying)
            looks = look_names(program)
            self.assert_as_told(program, copying, all((spot, "stale", looks[spot]) not in facts for spot in looks))

    def test_more_labels_keep_a_copying_safe(self):
        rng = random.Random(12)
        for _ in range(12):
            program = looping_program(rng)
            safe = {copying: is_safe(program, copying) for copying in copyings()}
            self.assertTrue(safe[ALL])
            for copying, told in safe.items():
                for label in copying:
                    if not told:
                        self.assertFalse(safe[tuple(other for other in copying if other != label)])


if __name__ == "__main__":
    unittest.main()
