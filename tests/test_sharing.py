"""Runs by sharing: what they show, cells, held values and stale names [2, 8]."""

import copy
import random
import unittest

from copyplaces.programs import require_program
from copyplaces.sharing import cells_behind, held_behind, run_shared, stale_behind
from copyplaces.values import run, values_behind
from tests.second import Run, any_copying, any_program, any_ways, looping_program

EXAMPLE = (2, (("give", 0, 1, 0), ("change", 1, 0, 5), ("look", 1)))
ALL = (0, 1, 2, 3, 4, 5, 6, 7)


class SharingTest(unittest.TestCase):
    def assert_behind(self, program, copying, ways, cells, held, stale):
        require_program(program)
        kept = copy.deepcopy((program, copying, ways))
        self.assertEqual(cells_behind(program, copying, ways), cells)
        self.assertEqual(held_behind(program, copying, ways), held)
        self.assertEqual(stale_behind(program, copying, ways), stale)
        self.assertEqual((program, copying, ways), kept)

    def assert_shown(self, program, copying, ways, shown, end):
        require_program(program)
        kept = copy.deepcopy((program, copying, ways))
        self.assertEqual(run_shared(program, copying, ways), (shown, end))
        self.assertEqual((program, copying, ways), kept)

    def assert_second(self, program, copying, ways):
        """Assert that all is as the second telling says."""
        second = Run(program, copying, ways)
        self.assert_shown(program, copying, ways, tuple(second.shown_shared), second.end)
        self.assert_behind(program, copying, ways, second.least(), second.held(), second.stale())

    def test_example(self):
        self.assertEqual((run_shared(EXAMPLE, (), (0,)), cells_behind(EXAMPLE, (), ()), stale_behind(EXAMPLE, (), ())),
                         ((((0, (5,)),), ("end",)), (0, 0), (1,)))

    def test_by_name_and_kinds(self):
        told = run_shared(ways=(0,), copying=(), program=EXAMPLE)
        self.assertEqual(told, (((0, (5,)),), ("end",)))
        cells = cells_behind(ways=(), copying=(), program=EXAMPLE)
        held = held_behind(ways=(), copying=(), program=EXAMPLE)
        stale = stale_behind(ways=(), copying=(), program=EXAMPLE)
        self.assertEqual((cells, held, stale), ((0, 0), ((5,), (5,)), (1,)))
        kinds = [told, told[0], told[0][0], told[0][0][1], told[1], cells, held, held[0], stale]
        self.assertEqual({type(value) for value in kinds}, {tuple})

    def test_at_first_all_cells_are_different(self):
        self.assert_behind((4, ()), (), (), (0, 1, 2, 3), ((),) * 4, ())
        self.assert_behind((4, (("change", 0, 2, 1),)), (), (), (0, 1, 2, 3), ((), (), (1,), ()), ())
        self.assert_behind((1, (("look", 0),)), ALL, (), (0,), ((),), ())

    def test_a_give_shares(self):
        block = (("change", 0, 0, 1), ("give", 1, 2, 0))
        self.assert_behind((3, block), (), (), (0, 1, 0), ((1,), (), (1,)), ())
        self.assert_behind((3, block + (("change", 2, 2, 4),)), (), (), (0, 1, 0), ((1, 4), (), (1, 4)), (0,))
        self.assert_behind((3, block + (("change", 2, 0, 4),)), (), (), (0, 1, 0), ((1, 4), (), (1, 4)), (2,))

    def test_a_thing_that_is_given_on(self):
        block = (("give", 0, 1, 0), ("give", 1, 2, 1), ("give", 2, 3, 2))
        self.assert_behind((4, block), (), (), (0, 0, 0, 0), ((),) * 4, ())
        block += (("change", 3, 2, 6),)
        self.assert_behind((4, block), (), (), (0, 0, 0, 0), ((6,),) * 4, (0, 1, 3))
        self.assert_behind((4, block), (1,), (), (0, 0, 2, 2), ((), (), (6,), (6,)), (3,))
        self.assert_behind((4, block), (2,), (), (0, 0, 0, 3), ((6,), (6,), (6,), ()), (0, 1))
        self.assert_behind((4, block), (3,), (), (0, 0, 2, 0), ((), (), (6,), ()), ())

    def test_a_name_leaves_its_cell_and_the_others_stay(self):
        block = (("give", 0, 1, 0), ("give", 0, 2, 0), ("give", 0, 0, 3))
        self.assert_behind((4, block), (), (), (0, 1, 1, 0), ((),) * 4, ())
        block += (("change", 0, 1, 1), ("change", 0, 3, 2))
        self.assert_behind((4, block), (), (), (0, 1, 1, 0), ((2,), (1,), (1,), (2,)), (0, 2))

    def test_a_give_that_copies(self):
        block = (("change", 0, 0, 1), ("give", 3, 1, 0), ("change", 0, 0, 2), ("change", 0, 1, 3))
        self.assert_behind((2, block), (3,), (), (0, 1), ((1, 2), (1, 3)), ())
        self.assert_behind((2, block), (), (), (0, 0), ((1, 2, 3), (1, 2, 3)), (0, 1))
        # What shared with the name stays where it was.
        block = (("give", 0, 1, 0), ("change", 0, 2, 7), ("give", 3, 1, 2))
        self.assert_behind((3, block), (3,), (), (0, 1, 2), ((), (7,), (7,)), ())

    def test_a_give_between_names_that_share_already(self):
        block = (("give", 0, 1, 0), ("give", 1, 1, 0), ("change", 2, 0, 1))
        self.assert_behind((2, block), (), (), (0, 0), ((1,), (1,)), (1,))
        self.assert_behind((2, block), (1,), (), (0, 1), ((1,), ()), ())
        self.assert_behind((2, block), (0,), (), (0, 0), ((1,), (1,)), (1,))

    def test_a_change_that_copies(self):
        block = (("change", 0, 0, 1), ("give", 1, 1, 0), ("change", 2, 0, 2), ("change", 3, 1, 3))
        # The new cell has the old value, and then the mark is added in any case.
        self.assert_behind((2, block), (2,), (), (0, 1), ((1, 2), (1, 3)), ())
        self.assert_behind((2, block), (3,), (), (0, 1), ((1, 2), (1, 2, 3)), (1,))
        self.assert_behind((2, block), (2, 3), (), (0, 1), ((1, 2), (1, 3)), ())
        self.assert_behind((1, block[:1]), (0,), (), (0,), ((1,),), ())

    def test_a_change_that_copies_leaves_the_others_together(self):
        block = (("give", 0, 1, 0), ("give", 0, 2, 0), ("change", 1, 0, 5))
        self.assert_behind((3, block), (1,), (), (0, 1, 1), ((5,), (), ()), ())

    def test_a_copy_of_a_stale_thing_is_stale(self):
        block = (("give", 0, 1, 0), ("change", 1, 0, 5), ("give", 2, 2, 1))
        self.assert_behind((3, block), (), (), (0, 0, 0), ((5,), (5,), (5,)), (1, 2))
        self.assert_behind((3, block), (2,), (), (0, 0, 2), ((5,), (5,), (5,)), (1, 2))
        block += (("change", 3, 2, 6),)
        self.assert_behind((3, block), (2, 3), (), (0, 0, 2), ((5,), (5,), (5, 6)), (1, 2))

    def test_a_stale_name_that_is_changed_stays_stale(self):
        block = (("give", 0, 1, 0), ("change", 1, 0, 5), ("change", 2, 1, 5))
        self.assert_behind((2, block), (2,), (), (0, 1), ((5,), (5, 5)), (1,))
        self.assert_behind((2, block), (), (), (0, 0), ((5, 5), (5, 5)), (0, 1))

    def test_a_stale_name_made_fresh(self):
        block = (("give", 0, 1, 0), ("change", 1, 0, 5), ("fresh", 1))
        self.assert_behind((2, block), (), (), (0, 1), ((5,), ()), ())
        self.assert_behind((2, block + (("change", 1, 1, 6),)), (), (), (0, 1), ((5,), (6,)), ())
        self.assert_behind((2, block[:2] + (("give", 3, 1, 0),)), (), (), (0, 0), ((5,), (5,)), ())

    def test_a_fresh_name_that_shared(self):
        block = (("give", 0, 1, 0), ("fresh", 0), ("change", 1, 0, 5), ("change", 1, 1, 6))
        self.assert_behind((2, block), (), (), (0, 1), ((5,), (6,)), ())

    def test_labels_that_do_not_stand(self):
        for copying in ((2,), (3, 7), (2, 3, 4, 5, 6, 7)):
            self.assertEqual(run_shared(EXAMPLE, copying, (0,)), run_shared(EXAMPLE, (), (0,)))
            self.assert_behind(EXAMPLE, copying, (), (0, 0), ((5,), (5,)), (1,))
        self.assert_behind(EXAMPLE, (0, 2, 7), (), (0, 1), ((5,), ()), ())

    def test_one_label_at_some_statements(self):
        block = (("give", 4, 1, 0), ("give", 5, 2, 0), ("change", 4, 0, 1), ("change", 5, 1, 2))
        self.assert_behind((3, block), (4,), (), (0, 1, 2), ((1,), (2,), ()), ())
        self.assert_behind((3, block), (5,), (), (0, 1, 2), ((1,), (1, 2), ()), (1,))

    def test_looks_before_and_behind_a_change(self):
        program = (2, (("give", 0, 1, 0), ("look", 1), ("change", 1, 0, 5), ("look", 1), ("look", 0)))
        self.assert_shown(program, (), (0, 0, 0), ((0, ()), (1, (5,)), (2, (5,))), ("end",))
        self.assert_shown(program, (1,), (0, 0, 0), ((0, ()), (1, ()), (2, (5,))), ("end",))
        self.assert_shown(program, (), (0, 0), ((0, ()), (1, (5,))), ("open", 2))
        self.assert_shown(program, (), (0, 1, 0), ((0, ()),), ("astray", 1))
        self.assert_shown(program, (), (0, 0, 0, 2), ((0, ()), (1, (5,)), (2, (5,))), ("end",))
        self.assert_behind(program, (), (0,), (0, 0), ((5,), (5,)), (1,))
        self.assert_behind(program, (), (2,), (0, 0), ((), ()), ())

    def test_programs_without_spots(self):
        self.assert_shown((2, EXAMPLE[1][:2]), (), (0, 1), (), ("end",))
        self.assert_behind((2, EXAMPLE[1][:2]), (), (0, 1), (0, 0), ((5,), (5,)), (1,))

    def test_sharing_lasts_from_one_round_to_the_next(self):
        program = (2, (("loop", (("change", 1, 0, 5), ("look", 1), ("give", 0, 1, 0))),))
        self.assert_shown(program, (), (0, 0, 0, 0, 1), ((1, ()), (1, (5, 5))), ("end",))
        self.assert_shown(program, (0,), (0, 0, 0, 0, 1), ((1, ()), (1, (5,))), ("end",))
        self.assert_shown(program, (1,), (0, 0, 0, 0, 0, 0), ((1, ()), (1, (5,)), (1, (5, 5))), ("open", 0))
        self.assert_behind(program, (), (0,), (0, 1), ((5,), ()), ())
        self.assert_behind(program, (), (0, 0), (0, 0), ((5,), (5,)), ())
        self.assert_behind(program, (), (0, 0, 0), (0, 0), ((5, 5), (5, 5)), (1,))

    def test_a_loop_with_some_hundred_turns(self):
        program = (2, (("loop", (("change", 0, 0, 7), ("give", 1, 1, 0), ("look", 1))),))
        shown = tuple((1, (7,) * k) for k in range(1, 501))
        for copying in ((), (0,), (1,), ALL):
            self.assert_shown(program, copying, (0, 0) * 500, shown, ("open", 0))
        self.assert_behind(program, (0,), (0, 0) * 500 + (0,), (0, 0), ((7,) * 501,) * 2, ())
        self.assert_behind(program, (1,), (0, 0) * 500 + (0,), (0, 1), ((7,) * 501,) * 2, ())

    def test_with_all_eight_labels_real_copies_are_shown(self):
        rng = random.Random(8)
        for _ in range(600):
            program = any_program(rng)
            ways = any_ways(rng, program, 40)
            self.assertEqual(run_shared(program, ALL, ways), run(program, ways), (program, ways))
            self.assertEqual(held_behind(program, ALL, ways), values_behind(program, ways))
            self.assertEqual(stale_behind(program, ALL, ways), ())

    def test_as_a_second_telling_says(self):
        rng = random.Random(88)
        for _ in range(2000):
            program = any_program(rng)
            self.assert_second(program, any_copying(rng), any_ways(rng, program, rng.choice((3, 10, 40))))

    def test_long_ways_as_a_second_telling_says(self):
        rng = random.Random(888)
        for _ in range(60):
            program = looping_program(rng)
            self.assert_second(program, any_copying(rng), any_ways(rng, program, 600, 0.01))


if __name__ == "__main__":
    unittest.main()
