"""The store: slots, copies, and what is shown [2, 18]."""

import copy
import random
import unittest

from copyplaces.programs import require_program
from copyplaces.sharing import cells_behind, run_shared
from copyplaces.store import run_store, slots_behind
from tests.second import Run, any_copying, any_program, any_ways, looping_program, tangled_program

EXAMPLE = (2, (("give", 0, 1, 0), ("change", 1, 0, 5), ("look", 1)))


class StoreRun(Run):
    """A second telling of the store: cells are those of Run, and each cell that is in use has a slot."""

    def __init__(self, program, copying, ways):
        self.slots = list(range(program[0]))
        self.copies = 0
        Run.__init__(self, program, copying, ways)

    def alone(self, x):
        return not any(self.cells[x] is cell for y, cell in enumerate(self.cells) if y != x)

    def free(self, x):
        """The least slot in which no name is; x is taken out of its own."""
        return min(set(range(len(self.slots))) - {slot for y, slot in enumerate(self.slots) if y != x})

    def fresh(self, path, x):
        if not self.alone(x):
            self.slots[x] = self.free(x)
        Run.fresh(self, path, x)

    def give(self, path, label, x, y):
        if label in self.copying:
            self.copies += 1
            self.slots[x] = self.free(x)
        else:
            self.slots[x] = self.slots[y]
        Run.give(self, path, label, x, y)

    def change(self, path, label, x, mark):
        if label in self.copying and not self.alone(x):
            self.copies += 1
            self.slots[x] = self.free(x)
        Run.change(self, path, label, x, mark)


class StoreTest(unittest.TestCase):
    def assert_slots(self, block, copying, slots, copies, ways=(), names=4):
        program = require_program((names, block))
        self.assertEqual(slots_behind(program, copying, ways), slots, (program, copying))
        shown, end, counted = run_store(program, copying, ways)
        self.assertEqual(counted, copies, (program, copying))
        self.assertEqual((shown, end), run_shared(program, copying, ways))

    def test_example(self):
        self.assertEqual((run_store(EXAMPLE, (1,), (0,)), slots_behind(EXAMPLE, (1,), ())),
                         ((((0, ()),), ("end",), 1), (1, 0)))
        self.assertEqual((run_store(EXAMPLE, (0,), (0,)), slots_behind(EXAMPLE, (0,), ())),
                         ((((0, ()),), ("end",), 1), (0, 1)))
        self.assertEqual((run_store(EXAMPLE, (), (0,)), slots_behind(EXAMPLE, (), ())),
                         ((((0, (5,)),), ("end",), 0), (0, 0)))

    def test_at_first(self):
        for names in (1, 2, 3, 4):
            self.assert_slots((), (), tuple(range(names)), 0, names=names)
            self.assert_slots((("look", 0), ("fresh", 0)), (), tuple(range(names)), 0, names=names)

    def test_fresh(self):
        # Alone: it stays, also where a lower slot is free.
        self.assert_slots((("fresh", 2),), (), (0, 1, 2, 3), 0)
        self.assert_slots((("give", 0, 0, 1), ("fresh", 2)), (), (1, 1, 2, 3), 0)
        self.assert_slots((("give", 0, 0, 1), ("fresh", 1)), (), (1, 0, 2, 3), 0)
        self.assert_slots((("give", 0, 0, 1), ("fresh", 0)), (), (0, 1, 2, 3), 0)
        self.assert_slots((("give", 0, 2, 0), ("give", 0, 1, 3), ("fresh", 0)), (), (1, 3, 0, 3), 0)
        self.assert_slots((("give", 0, 2, 0), ("give", 0, 1, 3), ("fresh", 0), ("fresh", 3)), (), (1, 3, 0, 2), 0)

    def test_a_give_that_shares(self):
        self.assert_slots((("give", 0, 1, 0),), (), (0, 0, 2, 3), 0)
        self.assert_slots((("give", 0, 1, 0), ("give", 0, 2, 1), ("give", 0, 3, 2)), (), (0, 0, 0, 0), 0)
        self.assert_slots((("give", 0, 1, 0), ("give", 0, 1, 0)), (), (0, 0, 2, 3), 0)

    def test_a_give_that_copies(self):
        """It first takes the name out of its slot, so that this one may be the free one; it always counts."""
        self.assert_slots((("give", 7, 1, 0),), (7,), (0, 1, 2, 3), 1)
        self.assert_slots((("give", 7, 0, 3),), (7,), (0, 1, 2, 3), 1)
        self.assert_slots((("give", 0, 0, 1), ("give", 7, 2, 1)), (7,), (1, 1, 0, 3), 1)
        self.assert_slots((("give", 0, 0, 1), ("give", 7, 0, 1)), (7,), (0, 1, 2, 3), 1)
        self.assert_slots((("give", 0, 0, 1), ("give", 7, 1, 0)), (7,), (1, 0, 2, 3), 1)
        self.assert_slots((("give", 7, 1, 0),) * 5, (7,), (0, 1, 2, 3), 5)
        self.assert_slots((("give", 7, 1, 0), ("give", 6, 2, 1), ("give", 7, 3, 2)), (7,), (0, 1, 1, 2), 2)

    def test_a_change(self):
        # Alone it stays and no copy is counted, whatever its label and the free slots are.
        self.assert_slots((("change", 7, 1, 5),), (7,), (0, 1, 2, 3), 0)
        self.assert_slots((("give", 0, 0, 1), ("change", 7, 2, 5)), (7,), (1, 1, 2, 3), 0)
        self.assert_slots((("give", 0, 0, 1), ("change", 7, 1, 5)), (7,), (1, 0, 2, 3), 1)
        self.assert_slots((("give", 0, 0, 1), ("change", 7, 0, 5)), (7,), (0, 1, 2, 3), 1)
        self.assert_slots((("give", 0, 0, 1), ("change", 7, 1, 5)), (), (1, 1, 2, 3), 0)
        # The second time it has its cell alone.
        self.assert_slots((("give", 0, 0, 1), ("change", 7, 1, 5), ("change", 7, 1, 5)), (7,), (1, 0, 2, 3), 1)
        self.assert_slots((("give", 0, 0, 1), ("change", 7, 1, 5), ("change", 7, 0, 5)), (7,), (1, 0, 2, 3), 1)

    def test_values_that_are_given_up(self):
        """What lies in a slot from earlier shows nowhere."""
        block = (("change", 0, 0, 1), ("change", 0, 1, 2), ("give", 0, 0, 1), ("fresh", 1), ("look", 1), ("look", 0),
                 ("give", 7, 1, 0), ("look", 1))
        self.assertEqual(run_store((2, block), (7,), (0, 0, 0)), (((0, ()), (1, (2,)), (2, (2,))), ("end",), 1))
        self.assert_slots(block, (7,), (1, 0), 1, ways=(0, 0, 0), names=2)

    def test_ends_and_ways_left_over(self):
        block = (("give", 7, 1, 0), ("choose", ((("give", 7, 1, 0),), ())), ("give", 7, 1, 0))
        self.assertEqual(run_store((2, block), (7,), ()), ((), ("open", 0), 1))
        self.assertEqual(run_store((2, block), (7,), (2,)), ((), ("astray", 0), 1))
        self.assertEqual(run_store((2, block), (7,), (0,)), ((), ("end",), 3))
        self.assertEqual(run_store((2, block), (7,), (1, 2, 0)), ((), ("end",), 2))

    def test_by_name_and_kinds(self):
        told = run_store(ways=(0,), copying=(1,), program=EXAMPLE)
        slots = slots_behind(ways=(), copying=(1,), program=EXAMPLE)
        self.assertEqual([type(value) for value in (told, slots) + told], [tuple] * 4 + [int])

    def test_many_rounds(self):
        program = (3, (("loop", (("give", 7, 1, 0), ("give", 0, 2, 1), ("change", 7, 2, 1))), ("look", 1)))
        shown, end, copies = run_store(program, (7,), (0,) * 300 + (1, 0))
        self.assertEqual((shown, end, copies), (((1, ()),), ("end",), 600))
        self.assertEqual(run_store((1, (("loop", ()),)), (), (0,) * 700), ((), ("open", 0), 0))

    def test_statement_by_statement(self):
        """Each longer list of statements: no name is moved that the last statement is not about."""
        rng = random.Random(18)
        for _ in range(150):
            names = rng.choice((1, 2, 3, 4))
            rows = [row for row in (self.any_statement(rng, names) for _ in range(8))]
            copying = any_copying(rng)
            before = tuple(range(names))
            for many in range(1, 9):
                program = (names, tuple(rows[:many]))
                slots = slots_behind(program, copying, ())
                self.assertEqual(slots, tuple(StoreRun(program, copying, ()).slots), (program, copying))
                last = rows[many - 1]
                about = last[1] if last[0] == "fresh" else last[2]
                self.assertEqual(slots[:about] + slots[about + 1:], before[:about] + before[about + 1:])
                before = slots

    def any_statement(self, rng, names):
        word = rng.choice(("fresh", "give", "give", "change"))
        if word == "fresh" or names == 1:
            return ("fresh", rng.randrange(names))
        x, y = rng.sample(range(names), 2)
        return ("give", rng.randrange(8), x, y) if word == "give" else ("change", rng.randrange(8), x, 1)

    def test_any_runs(self):
        rng = random.Random(180)
        for _ in range(800):
            program = require_program(rng.choice((any_program, tangled_program, looping_program))(rng))
            copying, ways = any_copying(rng), any_ways(rng, program, 30)
            kept = copy.deepcopy((program, copying, ways))
            second = StoreRun(program, copying, ways)
            slots = slots_behind(program, copying, ways)
            self.assertEqual(run_store(program, copying, ways),
                             (tuple(second.shown_shared), second.end, second.copies), (program, copying, ways))
            self.assertEqual(slots, tuple(second.slots), (program, copying, ways))
            # Names have one slot just if they have one cell, and what is shown is what sharing shows.
            cells = cells_behind(program, copying, ways)
            self.assertEqual(tuple(slots.index(slot) for slot in slots), cells)
            self.assertEqual(run_store(program, copying, ways)[:2], run_shared(program, copying, ways))
            self.assertEqual((program, copying, ways), kept)


if __name__ == "__main__":
    unittest.main()
