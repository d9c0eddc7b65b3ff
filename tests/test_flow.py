"""The flow: what is passed on the way to the next spot, and that spot [6]."""

import copy
import random
import unittest

from copyplaces.flow import flow, flow_start
from copyplaces.programs import require_program, spot_paths, way_count

LOOK = ("look", 0)


def note(m):
    """A statement that is told by its mark."""
    return ("change", 0, 0, m)


def notes(*marks):
    return tuple([note(m) for m in marks])


class Numbered:
    """A second telling of the flow: each block is told what comes behind it."""

    def __init__(self, program):
        self.ways = []
        self.start = self.told(program[1], lambda: ((), None))()

    def told(self, block, behind):
        """A function that tells the flow from the beginning of the block."""
        # Numbers are given in the order written, so the statements are entered
        # first and linked from the last one backwards.
        entered = []
        for statement in block:
            number = None
            if statement[0] in ("look", "choose", "loop"):
                number = len(self.ways)
                self.ways.append(None)
            entered.append((statement, number, self.inner(statement)))
        steps = behind
        for statement, number, inner in reversed(entered):
            steps = self.linked(statement, number, inner, steps)
        return steps

    def inner(self, statement):
        """For each block of the statement what comes behind it, filled in later, and its flow."""
        blocks = ()
        if statement[0] == "choose":
            blocks = statement[1]
        elif statement[0] == "loop":
            blocks = (statement[1],)
        cells = []
        for block in blocks:
            cell = [None]
            cells.append((cell, self.told(block, lambda cell=cell: cell[0]())))
        return cells

    def linked(self, statement, number, inner, behind):
        if number is None:
            return lambda: ((statement,) + behind()[0], behind()[1])
        meets = lambda: ((), number)
        if statement[0] == "look":
            self.ways[number] = [behind]
        for cell, steps in inner:
            cell[0] = meets if statement[0] == "loop" else behind
            self.ways[number] = (self.ways[number] or []) + [steps]
        if statement[0] == "loop":
            self.ways[number].append(behind)
        return meets


def any_program(rng):
    """A program of any shape; each plain statement is another one than the one before."""
    left = [rng.randint(0, 40), rng.randint(0, 12)]
    marks = [0]

    def block(depth):
        rows = []
        for _ in range(rng.choice((0, 1, 1, 2, 3, 4, 8))):
            if left[0] == 0:
                break
            left[0] -= 1
            kind = rng.choice(("plain", "plain", "look", "choose", "loop"))
            if kind == "plain" or left[1] == 0:
                marks[0] += 1
                rows.append(rng.choice((("change", marks[0] // 10 % 8, 0, marks[0] % 10), ("fresh", 1),
                                        ("give", marks[0] % 8, 1, 0))))
                continue
            left[1] -= 1
            if kind == "look" or depth == 5:
                rows.append(("look", rng.randint(0, 1)))
            elif kind == "choose":
                rows.append(("choose", tuple([block(depth + 1) for _ in range(rng.choice((2, 3)))])))
            else:
                rows.append(("loop", block(depth + 1)))
        return tuple(rows)

    return (2, block(1))


class FlowTest(unittest.TestCase):
    def assert_flow(self, block, start, ways):
        """ways: for each spot, for each of its ways, the marks that are passed and the next spot."""
        program = require_program((1, block))
        kept = copy.deepcopy(program)
        self.assertEqual(flow_start(program), (notes(*start[0]), start[1]))
        self.assertEqual(len(spot_paths(program)), len(ways))
        for spot, told in enumerate(ways):
            self.assertEqual(way_count(program, spot), len(told))
            for way, (marks, after) in enumerate(told):
                self.assertEqual(flow(program, spot, way), (notes(*marks), after), (spot, way))
        self.assertEqual(program, kept)

    def test_example(self):
        program = (2, (("give", 0, 1, 0), ("change", 1, 0, 5), ("look", 1)))
        self.assertEqual((flow_start(program), flow(program, 0, 0)),
                         (((("give", 0, 1, 0), ("change", 1, 0, 5)), 0), ((), None)))

    def test_by_name_and_kinds(self):
        program = (1, (note(1), LOOK, note(2)))
        self.assertEqual(flow_start(program=program), (notes(1), 0))
        self.assertEqual(flow(way=0, spot=0, program=program), (notes(2), None))
        for pair in (flow_start(program), flow(program, 0, 0)):
            self.assertIs(type(pair), tuple)
            self.assertIs(type(pair[0]), tuple)

    def test_every_plain_statement_is_passed(self):
        plain = (("fresh", 1), ("give", 3, 0, 1), ("change", 2, 1, 4), ("fresh", 0))
        self.assertEqual(flow_start((2, plain)), (plain, None))
        program = (2, plain[:2] + (LOOK,) + plain[2:])
        self.assertEqual(flow_start(program), (plain[:2], 0))
        self.assertEqual(flow(program, 0, 0), (plain[2:], None))

    def test_empty_program(self):
        self.assert_flow((), ([], None), [])

    def test_looks(self):
        self.assert_flow((LOOK, LOOK, note(1), note(2), LOOK, note(3)), ([], 0), [
            [([], 1)], [([1, 2], 2)], [([3], None)]])

    def test_a_choice_between_statements(self):
        self.assert_flow(
            (note(1), ("choose", (notes(2, 3), notes(4), ())), note(5), LOOK), ([1], 0), [
                [([2, 3, 5], 1), ([4, 5], 1), ([5], 1)], [([], None)]])

    def test_a_choice_of_empty_blocks_at_the_end(self):
        self.assert_flow((("choose", ((), ())),), ([], 0), [[([], None), ([], None)]])

    def test_spots_in_a_choice(self):
        self.assert_flow(
            (("choose", ((note(1), LOOK, note(2)), (note(3), LOOK))), note(4)), ([], 0), [
                [([1], 1), ([3], 2)], [([2, 4], None)], [([4], None)]])

    def test_a_loop_between_statements(self):
        self.assert_flow((note(1), ("loop", notes(2, 3)), note(4), LOOK), ([1], 0), [
            [([2, 3], 0), ([4], 1)], [([], None)]])

    def test_empty_loops(self):
        self.assert_flow((("loop", ()), ("loop", ())), ([], 0), [
            [([], 0), ([], 1)], [([], 1), ([], None)]])

    def test_spots_in_a_loop(self):
        self.assert_flow((("loop", (note(1), LOOK, note(2), LOOK, note(3))), note(4)), ([], 0), [
            [([1], 1), ([4], None)], [([2], 2)], [([3], 0)]])

    def test_loops_in_loops(self):
        self.assert_flow((("loop", (note(1), ("loop", notes(2)), note(3))), note(4)), ([], 0), [
            [([1], 1), ([4], None)], [([2], 1), ([3], 0)]])
        self.assert_flow((("loop", (("loop", (("loop", ()),)),)),), ([], 0), [
            [([], 1), ([], None)], [([], 2), ([], 0)], [([], 2), ([], 1)]])

    def test_choices_in_choices(self):
        inner = ("choose", (notes(2), ()))
        self.assert_flow((("choose", ((note(1), inner, note(3)), (inner,))), note(4)), ([], 0), [
            [([1], 1), ([], 2)], [([2, 3, 4], None), ([3, 4], None)], [([2, 4], None), ([4], None)]])

    def test_choices_in_loops_come_back(self):
        self.assert_flow(
            (note(1), ("loop", (note(2), ("choose", (notes(3), (), (LOOK,))), note(4))), note(5)), ([1], 0), [
                [([2], 1), ([5], None)], [([3, 4], 0), ([4], 0), ([], 2)], [([4], 0)]])

    def test_loops_in_choices_go_on_behind(self):
        self.assert_flow(
            (("choose", ((("loop", notes(1)), note(2)), (("loop", ()),))), note(3), LOOK), ([], 0), [
                [([], 1), ([], 2)], [([1], 1), ([2, 3], 3)], [([], 2), ([3], 3)], [([], None)]])

    def test_five_blocks_within_one_another(self):
        block = (note(5), LOOK, note(6))
        block = (note(4), ("choose", ((), block)), note(7))
        block = (note(3), ("loop", block), note(8))
        block = (note(2), ("choose", (block, ())), note(9))
        block = (note(1), ("loop", block), note(0))
        self.assert_flow(block, ([1], 0), [
            [([2], 1), ([0], None)], [([3], 2), ([9], 0)], [([4], 3), ([8, 9], 0)],
            [([7], 2), ([5], 4)], [([6, 7], 2)]])

    def test_alike_statements_are_told_apart_by_their_places(self):
        block = (LOOK, ("loop", (LOOK,)), LOOK)
        self.assert_flow((("choose", (block, block)),), ([], 0), [
            [([], 1), ([], 5)],
            [([], 2)], [([], 3), ([], 4)], [([], 2)], [([], None)],
            [([], 6)], [([], 7), ([], 8)], [([], 6)], [([], None)]])

    def test_somewhat_beyond_the_limits(self):
        program = (6, notes(*[1] * 20) + (("choose", ((), (), (), notes(2))),) + (LOOK,) * 14)
        self.assertEqual(flow_start(program), (notes(*[1] * 20), 0))
        self.assertEqual(flow(program, 0, 3), (notes(2), 1))
        self.assertEqual(flow(program, 13, 0), ((), 14))

    def test_as_a_second_telling_says(self):
        rng = random.Random(6)
        for _ in range(1500):
            program = require_program(any_program(rng))
            second = Numbered(program)
            self.assertEqual(flow_start(program), second.start, program)
            self.assertEqual(len(spot_paths(program)), len(second.ways))
            for spot, ways in enumerate(second.ways):
                self.assertEqual(way_count(program, spot), len(ways))
                for way, steps in enumerate(ways):
                    self.assertEqual(flow(program, spot, way), steps(), (program, spot, way))


if __name__ == "__main__":
    unittest.main()
