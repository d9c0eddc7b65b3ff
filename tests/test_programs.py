"""Programs: what is one and what is not, paths, labels and spots [2, 4, 5]."""

import copy
import unittest

from copyplaces.errors import InvalidProgram
from copyplaces.programs import labels_of, require_program, spot_paths, way_count

EXAMPLE = (2, (("give", 0, 1, 0), ("change", 1, 0, 5), ("look", 1)))
# Statements ahead of, in and behind spots, five blocks within one another.
DEEP = (4, (
    ("fresh", 3),
    ("choose", (
        (("give", 7, 0, 1), ("look", 0)),
        (),
        (("loop", (("change", 2, 3, 9), ("choose", ((), (("loop", ()), ("look", 3)))))), ("look", 2)),
    )),
    ("give", 2, 1, 0),
    ("loop", (("look", 1),)),
))
NO_NUMBERS = [True, False, None, "0", "", (), (0,), [], [0], {}, {0: 0}]


def nested(depth, inner=()):
    """A block in which blocks stand within one another: depth of them in all, with itself."""
    for _ in range(depth - 1):
        inner = (("loop", inner),)
    return inner


def sized(statements, spots):
    """A program with so many statements and spots, in blocks of at most 8."""
    rest = statements - spots
    blocks = []
    for _ in range(spots):
        inner = min(8, rest)
        rest -= inner
        blocks.append(("loop", (("fresh", 0),) * inner))
    first, second = blocks[:7], blocks[7:]
    if second:
        # The spots beyond the seventh stand within the last but these.
        first[6] = ("loop", tuple(second))
    return (1, tuple(first) + (("fresh", 0),) * rest)


def count(program):
    """The number of statements, told without the package."""
    def inside(block):
        total = 0
        for statement in block:
            total += 1
            if statement[0] == "loop":
                total += inside(statement[1])
            elif statement[0] == "choose":
                total += sum(inside(part) for part in statement[1])
        return total
    return inside(program[1])


class Checks(unittest.TestCase):
    def assert_accepted(self, value):
        kept = copy.deepcopy(value)
        self.assertIs(require_program(value), value)
        self.assertEqual(value, kept)

    def assert_refused(self, value, path):
        kept = copy.deepcopy(value)
        with self.assertRaises(InvalidProgram) as caught:
            require_program(value)
        self.assertEqual(caught.exception.path, path, value)
        self.assertIs(type(caught.exception.path), tuple)
        self.assertEqual(repr(value), repr(kept))

    def assert_statement_accepted(self, statement, names=4):
        self.assert_accepted((names, (statement,)))

    def assert_statement_refused(self, statement, names=4):
        """Refused as the first one, behind another one, and within blocks."""
        self.assert_refused((names, (statement,)), (0,))
        self.assert_refused((names, (("look", 0), ("fresh", 0), statement)), (2,))
        self.assert_refused((names, (("loop", (("look", 0), statement)),)), (0, 0, 1))
        self.assert_refused((names, (("choose", ((), (), (statement,))),)), (0, 2, 0))


class AcceptedTest(Checks):
    def test_programs(self):
        self.assert_accepted(EXAMPLE)
        self.assert_accepted(DEEP)
        self.assert_accepted((1, ()))

    def test_by_name(self):
        self.assertIs(require_program(value=EXAMPLE), EXAMPLE)
        with self.assertRaises(InvalidProgram):
            require_program(value=None)

    def test_names_from_1_to_4(self):
        for names in (1, 2, 3, 4):
            self.assert_accepted((names, (("fresh", names - 1),)))

    def test_each_number_of_each_statement(self):
        for x in range(4):
            self.assert_statement_accepted(("fresh", x))
            self.assert_statement_accepted(("look", x))
            for y in range(4):
                if x != y:
                    self.assert_statement_accepted(("give", 0, x, y))
        for p in range(8):
            self.assert_statement_accepted(("give", p, 1, 0))
            self.assert_statement_accepted(("change", p, 0, 0))
        for m in range(10):
            self.assert_statement_accepted(("change", 0, 3, m))

    def test_choices_and_loops(self):
        self.assert_statement_accepted(("choose", ((), ())))
        self.assert_statement_accepted(("choose", ((), (), ())))
        self.assert_statement_accepted(("choose", ((("look", 0),), (("loop", ()),))))
        self.assert_statement_accepted(("loop", ()))

    def test_blocks_of_8(self):
        self.assert_accepted((1, (("fresh", 0),) * 8))
        self.assert_accepted((1, (("loop", (("fresh", 0),) * 8),)))

    def test_5_blocks_within_one_another(self):
        self.assert_accepted((1, nested(5)))
        self.assert_accepted((1, nested(5, (("fresh", 0),) * 8)))

    def test_40_statements_and_12_spots(self):
        self.assertEqual(count(sized(40, 5)), 40)
        self.assert_accepted(sized(40, 5))
        self.assert_accepted(sized(40, 12))
        self.assert_accepted(sized(12, 12))
        looks = (("look", 0),) * 8
        self.assert_accepted((1, (("loop", looks), ("loop", (("look", 0),) * 2))))


class RefusedTest(Checks):
    def test_no_pair(self):
        for value in NO_NUMBERS + [0, 5, 10 ** 29, "ab", (1, (), ()), [1, ()], {1: ()}, ((), 1)]:
            self.assert_refused(value, ())

    def test_wrong_names(self):
        for names in [0, 5, -1, -2, 10 ** 29, -10 ** 29] + NO_NUMBERS:
            self.assert_refused((names, ()), ())
            self.assert_refused((names, (("wrong",),)), ())

    def test_blocks_that_are_no_tuples(self):
        for block in [0, None, True, "", "ab", [], [("look", 0)], {}, {0: 1}]:
            self.assert_refused((1, block), ())
            self.assert_refused((1, (("fresh", 0), ("loop", block))), (1, 0))
            self.assert_refused((1, (("choose", (block, ())),)), (0, 0))
            self.assert_refused((1, (("choose", ((), (), block)),)), (0, 2))
            self.assert_refused((1, nested(4, (("loop", block),))), (0, 0, 0, 0, 0, 0, 0, 0))

    def test_blocks_of_9(self):
        nine = (("fresh", 0),) * 9
        self.assert_refused((1, nine), ())
        self.assert_refused((1, (("loop", nine),)), (0, 0))
        self.assert_refused((1, (("look", 0), ("choose", ((), nine)))), (1, 1))

    def test_6_blocks_within_one_another(self):
        self.assert_refused((1, nested(6)), (0,) * 10)
        self.assert_refused((1, nested(7)), (0,) * 10)
        self.assert_refused((1, nested(5, (("look", 0), ("choose", ((), ()))))), (0,) * 8 + (1, 0))

    def test_very_deep_and_very_long_values(self):
        self.assert_refused((1, nested(19)), (0,) * 10)
        self.assert_refused((1, (("fresh", 0),) * 100000), ())
        self.assert_refused((1, (("fresh",) * 100000,)), (0,))
        deep = ()
        for _ in range(39):
            deep = (deep,)
        self.assert_refused(deep, ())
        self.assert_refused((1, deep[0][0]), (0,))

    def test_more_than_40_statements(self):
        for spots in (5, 7, 12):
            self.assertEqual(count(sized(41, spots)), 41)
            self.assert_refused(sized(41, spots), ())
        self.assert_refused(sized(48, 6), ())

    def test_more_than_12_spots(self):
        self.assert_refused(sized(13, 13), ())
        self.assert_refused(sized(40, 13), ())
        looks = (("look", 0),)
        self.assert_accepted((1, (("loop", looks * 8), ("choose", (looks, looks)))))
        self.assert_refused((1, (("loop", looks * 8), ("choose", (looks, looks * 2)))), ())
        self.assert_refused((1, (("loop", looks * 8), ("choose", (looks, looks)), ("loop", ()))), ())

    def test_statements_that_are_none_by_word(self):
        for statement in [0, None, True, "fresh", "", [], ["fresh", 0], {}, (), ("",), ("fresh ", 0),
                          ("Fresh", 0), (0, 0), (None, 0), (True, 0), (("fresh",), 0), (["fresh"], 0),
                          ({"fresh": 0}, 0), ("way", ()), ("end",), ("take", 0, 1, 0)]:
            self.assert_statement_refused(statement)

    def test_statements_that_are_none_by_length(self):
        for statement in [("fresh", 0), ("give", 0, 1, 0), ("change", 0, 0, 0), ("look", 0),
                          ("choose", ((), ())), ("loop", ())]:
            for length in range(len(statement)):
                self.assert_statement_refused(statement[:length])
            for more in (0, 1, (), None):
                self.assert_statement_refused(statement + (more,))

    def test_labels_and_marks(self):
        for p in [-1, 8, -8, 10 ** 29] + NO_NUMBERS:
            self.assert_statement_refused(("give", p, 1, 0))
            self.assert_statement_refused(("change", p, 1, 0))
        for m in [-1, 10, -10, 10 ** 29] + NO_NUMBERS:
            self.assert_statement_refused(("change", 0, 1, m))

    def test_names_that_there_are_not(self):
        for names in (1, 2, 3, 4):
            for x in [names, names + 1, -1, -names, 10 ** 29] + NO_NUMBERS:
                self.assert_statement_refused(("fresh", x), names)
                self.assert_statement_refused(("look", x), names)
                self.assert_statement_refused(("give", 0, x, 0), names)
                self.assert_statement_refused(("give", 0, 0, x), names)
                self.assert_statement_refused(("change", 0, x, 0), names)

    def test_a_give_to_the_same_name(self):
        for x in range(4):
            self.assert_statement_refused(("give", 0, x, x))
        self.assert_statement_refused(("give", 0, 0, 0), 1)

    def test_the_blocks_of_a_choice(self):
        for blocks in [(), ((),), ((), (), (), ()), ((),) * 8, [], [(), ()], [(), (), ()], {}, None, 2, "ab"]:
            self.assert_statement_refused(("choose", blocks))


class FirstFaultTest(Checks):
    """Two faults at once: the one that is listed first is told."""

    WRONG = ("wrong",)

    def test_names_come_before_everything(self):
        self.assert_refused((0, (self.WRONG,)), ())
        self.assert_refused((True, (self.WRONG,)), ())

    def test_a_block_comes_before_its_statements(self):
        self.assert_refused((1, (self.WRONG,) * 9), ())
        self.assert_refused((1, [self.WRONG]), ())
        self.assert_refused((1, (("loop", (self.WRONG,) * 9),)), (0, 0))
        self.assert_refused((1, nested(6, (self.WRONG,))), (0,) * 10)

    def test_a_statement_comes_before_its_blocks(self):
        self.assert_refused((1, (("choose", ((self.WRONG,),)),)), (0,))
        self.assert_refused((1, (("choose", [(self.WRONG,), ()]),)), (0,))
        self.assert_refused((1, (("loop", (self.WRONG,), 0),)), (0,))
        self.assert_refused((1, nested(5, (("choose", ((),)),))), (0,) * 9)

    def test_the_order_in_which_they_are_written(self):
        self.assert_refused((1, (("look", 0), self.WRONG, self.WRONG)), (1,))
        self.assert_refused((1, (("loop", (("look", 0), self.WRONG)), self.WRONG)), (0, 0, 1))
        self.assert_refused((1, (("loop", []), self.WRONG)), (0, 0))
        self.assert_refused((1, (self.WRONG, ("loop", []))), (0,))
        self.assert_refused((1, (("choose", ((("look", 1),), [])),)), (0, 0, 0))
        self.assert_refused((1, (("choose", ([], (("look", 1),))),)), (0, 0))
        self.assert_refused((1, (("choose", ((("loop", (self.WRONG,)),), [])),)), (0, 0, 0, 0, 0))
        self.assert_refused((1, (nested(6)[0], self.WRONG)), (0,) * 10)
        self.assert_refused((1, (nested(5)[0], ("choose", ((), [])))), (1, 1))

    def test_sizes_come_last(self):
        names, block = sized(41, 6)
        self.assert_refused((names, block[:-1] + (block[-1], self.WRONG)), (len(block),))
        names, block = sized(13, 13)
        self.assert_refused((names, block + (("give", 0, 0, 0),)), (7,))
        names, block = sized(41, 7)
        last = ("loop", block[-1][1] + (("loop", []),))
        self.assert_refused((names, block[:-1] + (last,)), (6, 0, len(last[1]) - 1, 0))


class LabelsTest(Checks):
    def test_example(self):
        self.assertEqual((labels_of(EXAMPLE), spot_paths(EXAMPLE)), ((0, 1), ((2,),)))

    def test_labels_ascend_and_stand_once(self):
        self.assertEqual(labels_of(DEEP), (2, 7))
        block = tuple([("change", p, 0, 7) for p in (5, 3, 7, 3, 0, 5)])
        self.assertEqual(labels_of((1, block)), (0, 3, 5, 7))
        self.assertEqual(labels_of(program=(2, (("give", 6, 0, 1),))), (6,))
        self.assertEqual(labels_of((4, tuple([("give", p, 3, 2) for p in range(7, -1, -1)]))), tuple(range(8)))

    def test_no_labels(self):
        self.assertEqual(labels_of((1, ())), ())
        self.assertEqual(labels_of((4, (("fresh", 3), ("look", 2), ("loop", (("look", 1),))))), ())

    def test_labels_in_blocks(self):
        block = (("choose", ((), (("loop", (("give", 4, 1, 0),)),), (("change", 1, 0, 6),))),)
        self.assertEqual(labels_of((2, block)), (1, 4))

    def test_somewhat_beyond_the_limits(self):
        self.assertEqual(labels_of((6, (("give", 9, 5, 4), ("change", 8, 5, 12)) * 9)), (8, 9))
        self.assertEqual(labels_of((1, nested(8, (("change", 2, 0, 0),)))), (2,))


class SpotsTest(Checks):
    def test_paths_at_depth(self):
        self.assertEqual(spot_paths(DEEP), (
            (1,), (1, 0, 1), (1, 2, 0), (1, 2, 0, 0, 1), (1, 2, 0, 0, 1, 1, 0), (1, 2, 0, 0, 1, 1, 1),
            (1, 2, 1), (3,), (3, 0, 0)))

    def test_the_five_blocks(self):
        self.assertEqual(spot_paths((1, nested(5, (("fresh", 0), ("look", 0))))),
                         ((0,), (0, 0, 0), (0,) * 5, (0,) * 7, (0,) * 8 + (1,)))

    def test_no_spots(self):
        self.assertEqual(spot_paths((1, ())), ())
        self.assertEqual(spot_paths((2, (("fresh", 0), ("give", 0, 1, 0), ("change", 0, 1, 1)))), ())

    def test_a_choice_or_loop_stands_before_what_is_in_it(self):
        look = ("look", 0)
        self.assertEqual(spot_paths((1, (look, ("choose", ((look,), (look,))), look))),
                         ((0,), (1,), (1, 0, 0), (1, 1, 0), (2,)))
        self.assertEqual(spot_paths(program=(1, (("loop", (look,)), look))), ((0,), (0, 0, 0), (1,)))

    def test_way_counts(self):
        self.assertEqual([way_count(DEEP, spot) for spot in range(9)], [3, 1, 2, 2, 2, 1, 1, 2, 1])
        self.assertEqual(way_count(program=EXAMPLE, spot=0), 1)
        self.assertEqual(way_count((1, (("loop", ()),)), 0), 2)
        self.assertEqual(way_count((1, (("choose", ((), ())),)), 0), 2)
        self.assertEqual(way_count((1, (("choose", ((), (), ())),)), 0), 3)

    def test_somewhat_beyond_the_limits(self):
        looks = (("look", 0),) * 13
        self.assertEqual(spot_paths((1, looks)), tuple([(k,) for k in range(13)]))
        self.assertEqual(way_count((1, looks), 12), 1)
        self.assertEqual(way_count((5, (("choose", ((), (), (), ())),)), 0), 4)
        self.assertEqual(way_count((1, (("choose", ((),)),)), 0), 1)
        self.assertEqual(spot_paths((1, nested(7)))[-1], (0,) * 11)


if __name__ == "__main__":
    unittest.main()
