"""Runs with real copies: what they show, their ends, and the names' values [2, 7]."""

import copy
import random
import unittest

from copyplaces.programs import require_program
from copyplaces.values import run, values_behind
from tests.second import Run, any_program, any_ways, looping_program

EXAMPLE = (2, (("give", 0, 1, 0), ("change", 1, 0, 5), ("look", 1)))


class ValuesTest(unittest.TestCase):
    def assert_run(self, program, ways, shown, end, values):
        require_program(program)
        kept = copy.deepcopy((program, ways))
        self.assertEqual(run(program, ways), (shown, end))
        self.assertEqual(values_behind(program, ways), values)
        self.assertEqual((program, ways), kept)

    def test_example(self):
        self.assertEqual((run(EXAMPLE, (0,)), values_behind(EXAMPLE, ())),
                         ((((0, ()),), ("end",)), ((5,), ())))

    def test_by_name_and_kinds(self):
        shown, end = run(ways=(0,), program=EXAMPLE)
        self.assertEqual((shown, end), (((0, ()),), ("end",)))
        told = [run(EXAMPLE, (0,)), shown, shown[0], shown[0][1], end, values_behind(EXAMPLE, ()),
                values_behind(EXAMPLE, ())[0], run(EXAMPLE, ())[0], run(EXAMPLE, ())[1]]
        self.assertEqual({type(value) for value in told}, {tuple})
        self.assertEqual(values_behind(ways=(), program=EXAMPLE), ((5,), ()))

    def test_at_first_every_name_has_nothing(self):
        for names in (1, 2, 3, 4):
            self.assert_run((names, ()), (), (), ("end",), ((),) * names)
            self.assert_run((names, (("look", names - 1),)), (0,), ((0, ()),), ("end",), ((),) * names)

    def test_changes_add_at_the_end(self):
        block = (("change", 0, 0, 3), ("change", 7, 0, 1), ("change", 0, 1, 0), ("change", 0, 0, 3))
        self.assert_run((2, block), (), (), ("end",), ((3, 1, 3), (0,)))

    def test_a_give_copies_at_once(self):
        block = (("change", 0, 0, 1), ("give", 0, 1, 0), ("change", 0, 0, 2), ("change", 0, 1, 3))
        self.assert_run((2, block), (), (), ("end",), ((1, 2), (1, 3)))
        self.assert_run((3, block + (("give", 1, 2, 1), ("give", 1, 1, 0))), (), (), ("end",),
                        ((1, 2), (1, 2), (1, 3)))

    def test_a_give_takes_what_was_there(self):
        block = (("change", 0, 1, 9), ("give", 0, 1, 0))
        self.assert_run((2, block), (), (), ("end",), ((), ()))

    def test_a_fresh_thing_is_empty(self):
        block = (("change", 0, 0, 1), ("give", 0, 1, 0), ("fresh", 0), ("change", 0, 0, 2))
        self.assert_run((2, block), (), (), ("end",), ((2,), (1,)))
        self.assert_run((2, block + (("fresh", 1),)), (), (), ("end",), ((2,), ()))

    def test_looks_before_and_behind_a_change(self):
        block = (("change", 0, 0, 1), ("look", 0), ("change", 0, 0, 2), ("look", 0), ("look", 1))
        self.assert_run((2, block), (0, 0, 0), ((0, (1,)), (1, (1, 2)), (2, ())), ("end",), ((1, 2), ()))
        self.assert_run((2, block), (0, 0), ((0, (1,)), (1, (1, 2))), ("open", 2), ((1, 2), ()))
        self.assert_run((2, block), (0,), ((0, (1,)),), ("open", 1), ((1, 2), ()))
        self.assert_run((2, block), (), (), ("open", 0), ((1,), ()))

    def test_only_looks_show(self):
        block = (("choose", ((("change", 0, 0, 1),), (("look", 0),))), ("loop", (("look", 0),)))
        self.assert_run((1, block), (0, 1), (), ("end",), ((1,),))
        self.assert_run((1, block), (1, 0, 0, 0, 0, 0, 1), ((1, ()), (3, ()), (3, ())), ("end",), ((),))

    def test_programs_without_spots(self):
        self.assert_run((1, (("change", 0, 0, 4),)), (), (), ("end",), ((4,),))
        self.assert_run((1, (("change", 0, 0, 4),)), (0, 2, 1), (), ("end",), ((4,),))
        self.assert_run((1, ()), (2,), (), ("end",), ((),))

    def test_ways_left_over_mean_nothing(self):
        for rest in ((0,), (2,), (1, 2, 0), (0,) * 300):
            self.assert_run(EXAMPLE, (0,) + rest, ((0, ()),), ("end",), ((5,), ()))
        # Behind a spot where the run goes astray none of them is used, either.
        self.assert_run(EXAMPLE, (1, 0, 0), (), ("astray", 0), ((5,), ()))

    def test_astray_at_a_look(self):
        block = (("change", 0, 0, 1), ("look", 0), ("change", 0, 0, 2))
        for way in (1, 2):
            self.assert_run((1, block), (way,), (), ("astray", 0), ((1,),))
            self.assert_run((1, block), (way, 0), (), ("astray", 0), ((1,),))

    def test_astray_at_a_choice(self):
        block = (("look", 0), ("choose", ((("change", 0, 0, 1),), (("change", 0, 0, 2),))), ("change", 0, 0, 3))
        self.assert_run((1, block), (0, 2), ((0, ()),), ("astray", 1), ((),))
        self.assert_run((1, block), (0, 1), ((0, ()),), ("end",), ((2, 3),))
        self.assert_run((1, block), (0, 0, 2), ((0, ()),), ("end",), ((1, 3),))

    def test_a_choice_of_three_has_the_way_two(self):
        blocks = ((("change", 0, 0, 1),), (("change", 0, 0, 2),), (("change", 0, 0, 3), ("look", 0)))
        program = (1, (("choose", blocks), ("change", 0, 0, 4)))
        self.assert_run(program, (0,), (), ("end",), ((1, 4),))
        self.assert_run(program, (1,), (), ("end",), ((2, 4),))
        self.assert_run(program, (2,), (), ("open", 1), ((3,),))
        self.assert_run(program, (2, 0), ((1, (3,)),), ("end",), ((3, 4),))
        self.assert_run(program, (2, 2), (), ("astray", 1), ((3,),))

    def test_astray_at_a_loop(self):
        program = (1, (("change", 0, 0, 1), ("loop", (("change", 0, 0, 2),)), ("change", 0, 0, 3)))
        self.assert_run(program, (2,), (), ("astray", 0), ((1,),))
        self.assert_run(program, (0, 0, 2, 1), (), ("astray", 0), ((1, 2, 2),))
        self.assert_run(program, (0, 1, 2), (), ("end",), ((1, 2, 3),))
        self.assert_run(program, (0,), (), ("open", 0), ((1, 2),))
        self.assert_run(program, (1,), (), ("end",), ((1, 3),))

    def test_ways_beyond_two_go_astray(self):
        program = (1, (("choose", ((), (), ())),))
        for way in (3, 4, 100, -1):
            self.assert_run(program, (way,), (), ("astray", 0), ((),))

    def test_a_loop_with_some_hundred_turns(self):
        program = (2, (("loop", (("change", 0, 0, 7), ("give", 0, 1, 0), ("look", 1))), ("look", 0)))
        for turns in (1, 2, 300, 700):
            shown = tuple((1, (7,) * k) for k in range(1, turns + 1))
            self.assert_run(program, (0, 0) * turns, shown, ("open", 0), ((7,) * turns,) * 2)
            self.assert_run(program, (0, 0) * turns + (1, 0), shown + ((2, (7,) * turns),), ("end",),
                            ((7,) * turns,) * 2)

    def test_loops_in_loops(self):
        inner = ("loop", (("change", 0, 1, 1), ("look", 1)))
        program = (2, (("loop", (("fresh", 1), inner, ("give", 0, 0, 1))), ("look", 0)))
        self.assert_run(program, (0, 0, 0, 0, 0, 1, 0, 0, 0, 1, 1, 0),
                        ((2, (1,)), (2, (1, 1)), (2, (1,)), (3, (1,))), ("end",), ((1,), (1,)))

    def test_as_a_second_telling_says(self):
        rng = random.Random(7)
        ends = set()
        for _ in range(3000):
            program = require_program(any_program(rng))
            ways = any_ways(rng, program, rng.choice((3, 10, 40)))
            second = Run(program, (), ways)
            self.assertEqual(run(program, ways), (tuple(second.shown), second.end), (program, ways))
            self.assertEqual(values_behind(program, ways), second.values(), (program, ways))
            ends.add(second.end[0])
        self.assertEqual(ends, {"end", "open", "astray"})

    def test_long_ways_as_a_second_telling_says(self):
        rng = random.Random(77)
        for _ in range(60):
            program = require_program(looping_program(rng))
            ways = any_ways(rng, program, 600, 0.01)
            second = Run(program, (), ways)
            self.assertEqual(run(program, ways), (tuple(second.shown), second.end))
            self.assertEqual(values_behind(program, ways), second.values())


if __name__ == "__main__":
    unittest.main()
