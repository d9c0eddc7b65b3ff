"""Sessions: edits, checkpoints, and records [2, 3, 19]."""

import copy
import inspect
import random
import unittest

from copyplaces.errors import (InvalidClaim, InvalidPrices, InvalidProgram, LimitExceeded, UnknownCheckpoint,
                               UnknownLabel, UnknownPath, UnknownRecord)
from copyplaces.programs import require_program
from copyplaces.sessions import Session
from tests.judged import EVEN, any_claims, any_other, fault, is_program
from tests.second import any_program, any_step, tangled_program

GIVE, CHANGE, LOOK = ("give", 0, 1, 0), ("change", 1, 0, 5), ("look", 1)
EXAMPLE = (2, (GIVE, CHANGE, LOOK))
DEEP = (3, (("choose", ((GIVE, LOOK), (), (("loop", (CHANGE,)),))), ("fresh", 2), ("loop", ())))
NO_PRICES = [None, True, 0, "", "11111111", (), (1,) * 7, (1,) * 9, [1] * 8, {}, (True,) + (1,) * 7,
             (1,) * 7 + (False,), (-1,) + (1,) * 7, (1,) * 7 + (100,), (1,) * 7 + ("1",), (1,) * 7 + (None,),
             ((1,) * 8,), (1,) * 7 + ((1,),), (10 ** 29,) * 8]
NO_PATHS = [None, True, 0, "", "0", [0], [], {}, (), (True,), (False,), (-1,), ("0",), (None,), ((0,),), ([0],), (0, 0),
            (0, 0, True), (0, True, 0), (10 ** 29,), (0, 0, 0, 0), (0, 10 ** 29, 0), (0,) * 41, tuple(range(50000))]
NO_NUMBERS = [None, True, False, "", "0", (), (0,), [], [0], {}, -1, 16, 10 ** 29, -10 ** 29]


def deep(value, times):
    for k in range(times):
        value = ((value,), [value], {"a": value}, (0, value))[k % 4]
    return value


def seen(session):
    """All that a session tells."""
    told = [session.program(), session.prices(), len(session)]
    told += [session.recorded(k) for k in range(len(session))]
    for number in range(8):
        try:
            told.append(session.program_at(number))
        except UnknownCheckpoint:
            break
    return told


class Checks(unittest.TestCase):
    def assert_refused(self, session, error, argument, call, *arguments):
        """The call raises this error with this argument, if it has one, and changes nothing."""
        before, kept = seen(session), copy.deepcopy(arguments)
        with self.assertRaises(error) as caught:
            getattr(session, call)(*arguments)
        self.assertIs(type(caught.exception), error)
        if argument is not None:
            name, value = argument
            self.assertEqual(repr(getattr(caught.exception, name)), repr(value))
        self.assertEqual(seen(session), before)
        self.assertEqual(repr(arguments), repr(kept))


class NewSessionTest(Checks):
    def test_what_it_has(self):
        session = Session(EXAMPLE)
        self.assertEqual((session.program(), session.prices(), len(session)), (EXAMPLE, EVEN, 0))
        prices = (0, 99, 1, 2, 3, 4, 5, 6)
        session = Session(prices=prices, program=DEEP)
        self.assertEqual((session.program(), session.prices()), (DEEP, prices))
        told = inspect.signature(Session).parameters["prices"]
        self.assertEqual((told.kind, told.default), (told.KEYWORD_ONLY, EVEN))
        with self.assertRaises(TypeError):
            Session(EXAMPLE, EVEN)

    def test_sessions_have_nothing_in_common(self):
        one, other = Session(EXAMPLE), Session(EXAMPLE)
        one.record(("safe", ()))
        one.checkpoint()
        one.take((0,))
        one.set_price(0, 9)
        self.assertEqual(seen(other), [EXAMPLE, EVEN, 0])

    def test_invalid_programs(self):
        for value, path in ((None, ()), ((2, ("look",)), (0,)), ((2, (LOOK, ("choose", ((), (("fresh", 2),))))), (1, 1, 0)),
                            ((2, (LOOK,) * 9), ()), ([2, ()], ()), ((1, (("loop", (("fresh", 0),) * 8),) * 5), ()),
                            (deep(0, 38), ()), ((2, (deep(0, 35),)), (0,))):
            for prices in (EVEN, None):
                with self.assertRaises(InvalidProgram) as caught:
                    Session(value, prices=prices)
                self.assertEqual(caught.exception.path, path)

    def test_invalid_prices(self):
        for prices in NO_PRICES + [deep(0, 38), tuple(range(50000))]:
            with self.assertRaises(InvalidPrices):
                Session(EXAMPLE, prices=prices)

    def test_each_method_is_its_own(self):
        for name in ("__init__", "__len__", "program", "prices", "put", "take", "set_price", "checkpoint", "restore",
                     "program_at", "decide", "record", "recorded", "standing"):
            self.assertIn(name, vars(Session))
        names = {name: list(inspect.signature(getattr(Session, name)).parameters)[1:] for name in (
            "put", "take", "set_price", "restore", "program_at", "decide", "record", "recorded", "standing")}
        self.assertEqual(names, {
            "put": ["path", "statement"], "take": ["path"], "set_price": ["label", "price"], "restore": ["number"],
            "program_at": ["number"], "decide": ["claim"], "record": ["claim"], "recorded": ["number"],
            "standing": ["number"]})


class EditTest(Checks):
    def assert_put(self, program, path, statement, block):
        session = Session(program)
        self.assertIsNone(session.put(path, statement))
        self.assertEqual(session.program(), (program[0], block))
        self.assertEqual(session.prices(), EVEN)

    def assert_taken(self, program, path, block):
        session = Session(program)
        self.assertIsNone(session.take(path))
        self.assertEqual(session.program(), (program[0], block))

    def test_put_in_the_place_of_another(self):
        self.assert_put(EXAMPLE, (0,), LOOK, (LOOK, CHANGE, LOOK))
        self.assert_put(EXAMPLE, (1,), ("loop", (GIVE,)), (GIVE, ("loop", (GIVE,)), LOOK))
        self.assert_put(EXAMPLE, (2,), GIVE, (GIVE, CHANGE, GIVE))
        self.assert_put(EXAMPLE, (2,), LOOK, EXAMPLE[1])
        self.assert_put(DEEP, (0, 0, 1), GIVE, (("choose", ((GIVE, GIVE), (), (("loop", (CHANGE,)),))),) + DEEP[1][1:])
        self.assert_put(DEEP, (0, 2, 0, 0, 0), LOOK,
                        (("choose", ((GIVE, LOOK), (), (("loop", (LOOK,)),))),) + DEEP[1][1:])
        self.assert_put(DEEP, (0, 2, 0), LOOK, (("choose", ((GIVE, LOOK), (), (LOOK,))),) + DEEP[1][1:])
        self.assert_put(DEEP, (0,), LOOK, (LOOK,) + DEEP[1][1:])

    def test_put_behind_the_last_one(self):
        self.assert_put(EXAMPLE, (3,), GIVE, EXAMPLE[1] + (GIVE,))
        self.assert_put((1, ()), (0,), ("fresh", 0), (("fresh", 0),))
        self.assert_put(DEEP, (3,), GIVE, DEEP[1] + (GIVE,))
        self.assert_put(DEEP, (0, 0, 2), GIVE,
                        (("choose", ((GIVE, LOOK, GIVE), (), (("loop", (CHANGE,)),))),) + DEEP[1][1:])
        self.assert_put(DEEP, (0, 1, 0), GIVE,
                        (("choose", ((GIVE, LOOK), (GIVE,), (("loop", (CHANGE,)),))),) + DEEP[1][1:])
        self.assert_put(DEEP, (0, 2, 0, 0, 1), GIVE,
                        (("choose", ((GIVE, LOOK), (), (("loop", (CHANGE, GIVE)),))),) + DEEP[1][1:])
        self.assert_put(DEEP, (2, 0, 0), GIVE, DEEP[1][:2] + (("loop", (GIVE,)),))

    def test_take(self):
        self.assert_taken(EXAMPLE, (0,), (CHANGE, LOOK))
        self.assert_taken(EXAMPLE, (1,), (GIVE, LOOK))
        self.assert_taken(EXAMPLE, (2,), (GIVE, CHANGE))
        self.assert_taken((1, (("look", 0),)), (0,), ())
        self.assert_taken(DEEP, (0,), DEEP[1][1:])
        self.assert_taken(DEEP, (0, 0, 0), (("choose", ((LOOK,), (), (("loop", (CHANGE,)),))),) + DEEP[1][1:])
        self.assert_taken(DEEP, (0, 2, 0), (("choose", ((GIVE, LOOK), (), ())),) + DEEP[1][1:])
        self.assert_taken(DEEP, (0, 2, 0, 0, 0), (("choose", ((GIVE, LOOK), (), (("loop", ()),))),) + DEEP[1][1:])

    def test_by_name(self):
        session = Session(EXAMPLE)
        session.put(statement=LOOK, path=(0,))
        session.take(path=(1,))
        session.set_price(price=9, label=3)
        self.assertEqual((session.program(), session.prices()), ((2, (LOOK, LOOK)), (1, 1, 1, 9, 1, 1, 1, 1)))

    def test_unknown_paths(self):
        for program, more in ((EXAMPLE, [(4,), (0, 0, 0), (2, 0, 0), (3, 0, 0)]),
                              (DEEP, [(4,), (0, 0, 3), (0, 1, 1), (0, 3, 0), (0, -1, 0), (-1, 0, 0), (-3, 0, 0), (0, 2, -1, 0, 0), (1, 0, 0), (2, 1, 0), (3, 0, 0),
                                      (0, 2, 0, 1, 0), (0, 2, 1, 0, 0), (2, 0, 0, 0, 0), (0, 0), (2, 0)])):
            session = Session(program)
            for path in NO_PATHS + more + [deep(0, 38), deep((), 38)]:
                # Whatever is to be put: the path comes first.
                for statement in (LOOK, None, ("look", 9)):
                    self.assert_refused(session, UnknownPath, ("path", path), "put", path, statement)
                self.assert_refused(session, UnknownPath, ("path", path), "take", path)
            for path in [(len(program[1]),)] + [(0, 0, 2), (0, 1, 0), (2, 0, 0)] * (program == DEEP):
                self.assert_refused(session, UnknownPath, ("path", path), "take", path)

    def test_an_outcome_that_is_no_program(self):
        session = Session(DEEP)
        for statement in (None, True, 0, "", "look", (), [], {}, list(LOOK), ("look",), ("look", 3), ("look", True),
                          ("give", 0, 1, 1), ("give", 8, 1, 0), ("change", 0, 0, 10), ("choose", ((),)), ("choose", [(), ()]),
                          ("choose", ((), (), (), ())), ("loop",), ("LOOK", 1), deep(0, 36), deep("loop", 36)):
            for path in ((0,), (3,), (0, 0, 1), (0, 1, 0), (0, 2, 0, 0, 1), (2, 0, 0)):
                self.assert_refused(session, InvalidProgram, ("path", path), "put", path, statement)
        for statement, inner in ((("loop", None), (0,)), (("loop", [LOOK]), (0,)), (("loop", (("look", 3),)), (0, 0)),
                                 (("choose", ((), (LOOK, ("look", True)))), (1, 1)), (("choose", ((), None)), (1,))):
            for path in ((1,), (3,), (0, 1, 0)):
                self.assert_refused(session, InvalidProgram, ("path", path + inner), "put", path, statement)

    def test_outcomes_beyond_the_limits(self):
        full = Session((1, (("fresh", 0),) * 8))
        self.assert_refused(full, InvalidProgram, ("path", ()), "put", (8,), ("fresh", 0))
        self.assert_refused(full, InvalidProgram, ("path", (0, 0)), "put", (0,), ("loop", (("fresh", 0),) * 9))
        nested = Session((1, (("loop", (("loop", (("loop", (("loop", ()),)),)),)),)))
        self.assertIsNone(nested.put((0,) * 9, ("look", 0)))
        self.assert_refused(nested, InvalidProgram, ("path", (0,) * 10), "put", (0,) * 9, ("loop", ()))
        self.assert_refused(nested, InvalidProgram, ("path", (0,) * 8 + (1, 0)), "put", (0,) * 8 + (1,), ("loop", ()))
        wide = Session((1, (("loop", (("fresh", 0),) * 8),) * 4 + (("loop", (("fresh", 0),) * 3),)))
        self.assert_refused(wide, InvalidProgram, ("path", ()), "put", (5,), ("fresh", 0))
        self.assertIsNone(wide.take((0, 0, 0)))
        self.assertIsNone(wide.put((5,), ("fresh", 0)))
        many = Session((1, (("loop", (("look", 0),) * 8), ("look", 0), ("look", 0), ("look", 0))))
        self.assert_refused(many, InvalidProgram, ("path", ()), "put", (4,), ("look", 0))
        self.assertIsNone(many.put((4,), ("fresh", 0)))

    def test_set_price(self):
        session = Session(EXAMPLE)
        for label, price in ((0, 0), (7, 99), (3, 42), (3, 1)):
            self.assertIsNone(session.set_price(label, price))
            self.assertEqual(session.prices()[label], price)
        self.assertEqual(session.prices(), (0, 1, 1, 1, 1, 1, 1, 99))
        self.assertEqual(session.program(), EXAMPLE)

    def test_set_price_refused(self):
        session = Session(EXAMPLE)
        for label in [8] + NO_NUMBERS + [deep(0, 38)]:
            for price in (1, 100, None):
                self.assert_refused(session, UnknownLabel, ("label", label), "set_price", label, price)
        for price in (None, True, False, -1, 100, "1", (1,), [1], {}, 10 ** 29, deep(0, 38)):
            self.assert_refused(session, InvalidPrices, None, "set_price", 0, price)


class CheckpointTest(Checks):
    def test_restore(self):
        session = Session(EXAMPLE, prices=(2,) * 8)
        self.assertEqual(session.checkpoint(), 0)
        session.take((1,))
        session.set_price(0, 5)
        self.assertEqual(session.checkpoint(), 1)
        session.put((0,), LOOK)
        session.set_price(7, 0)
        states = [(EXAMPLE, (2,) * 8), ((2, (GIVE, LOOK)), (5,) + (2,) * 7)]
        for number in (1, 0, 0, 1, 1, 0):
            self.assertIsNone(session.restore(number))
            self.assertEqual((session.program(), session.prices()), states[number])
            session.put((0,), LOOK)
            session.set_price(3, 77)
            self.assertEqual([session.program_at(k) for k in (0, 1)], [states[0][0], states[1][0]])
        self.assertEqual(session.checkpoint(), 2)

    def test_restoring_changes_nothing_else(self):
        session = Session(EXAMPLE)
        session.checkpoint()
        session.record(("safe", (0,)))
        session.take((0,))
        session.checkpoint()
        session.record(("safe", ()))
        session.restore(0)
        self.assertEqual(len(session), 2)
        self.assertEqual([session.recorded(k)[1] for k in (0, 1)], [("safe", (0,)), ("safe", ())])
        self.assertEqual(session.program_at(number=1), (2, (CHANGE, LOOK)))
        session.restore(number=1)
        self.assertEqual(session.program(), (2, (CHANGE, LOOK)))

    def test_at_most_eight(self):
        session = Session(EXAMPLE)
        self.assertEqual([session.checkpoint() for _ in range(8)], list(range(8)))
        self.assert_refused(session, LimitExceeded, ("limit", 8), "checkpoint")
        session.restore(3)
        self.assert_refused(session, LimitExceeded, ("limit", 8), "checkpoint")
        self.assertEqual(session.program_at(7), EXAMPLE)

    def test_unknown_ones(self):
        session = Session(EXAMPLE)
        for made in range(3):
            for number in [made, 8] + NO_NUMBERS + [deep(0, 38)]:
                self.assert_refused(session, UnknownCheckpoint, ("number", number), "restore", number)
                self.assert_refused(session, UnknownCheckpoint, ("number", number), "program_at", number)
            session.checkpoint()


class RecordTest(Checks):
    def test_example(self):
        session = Session((2, (("give", 0, 1, 0), ("look", 1))))
        self.assertEqual(session.record(("safe", ())), 0)
        before = session.standing(0)
        session.put((1,), ("change", 1, 0, 5))
        session.put((2,), ("look", 1))
        self.assertEqual((before, session.standing(0)), (None, ("start",)))

    def test_decide_as_for_program_and_prices(self):
        session = Session(EXAMPLE, prices=(4, 2, 1, 1, 1, 1, 1, 1))
        for claim, word in ((("safe", ()), "broken"), (("safe", (1,)), "shown"), (("clause", (0, 1)), "shown"),
                            (("clause", (0,)), "broken"), (("price", 2), "shown"), (("price", 1), "broken"),
                            (("stays", EXAMPLE), "shown"), (("stays", (2, (LOOK,))), "broken")):
            told = session.decide(claim=claim)
            self.assertEqual(told[:2], (word, claim))
            self.assertIsNone(fault(EXAMPLE, told, session.prices()))
        self.assertEqual(len(session), 0)
        session.set_price(1, 7)
        self.assertEqual(session.decide(("price", 2))[0], "broken")
        self.assertEqual(session.decide(("price", 4))[0], "shown")
        session.take((1,))
        self.assertEqual(session.decide(("price", 0))[0], "shown")

    def test_records_stand_and_fall(self):
        session = Session(EXAMPLE)
        session.checkpoint()
        claims = (("safe", (0,)), ("safe", ()), ("clause", (0, 1)), ("price", 1), ("price", 2), ("price", 0),
                  ("stays", EXAMPLE))
        for number, claim in enumerate(claims):
            self.assertEqual(session.record(claim), number)
            self.assertEqual(len(session), number + 1)
        words = ["shown", "broken", "shown", "shown", "broken", "broken", "shown"]
        self.assertEqual([session.recorded(k)[0] for k in range(7)], words)
        kept = [session.recorded(number=k) for k in range(7)]
        self.assertEqual([session.standing(k) for k in range(7)], [None] * 7)
        session.take((1,))
        start, ways = ("start",), ("ways",)
        self.assertEqual([session.standing(number=k) for k in range(7)], [
            None, ways, ways, ("tree", (), "ways"), None, ("tree", (), "ways"), session.standing(6)])
        self.assertIn(session.standing(6), (None, ("tree", (1,), start)))
        session.restore(0)
        self.assertEqual([session.standing(k) for k in range(7)], [None] * 7)
        session.set_price(0, 3)
        self.assertEqual(session.standing(3), fault(EXAMPLE, kept[3], session.prices()))
        self.assertEqual([session.recorded(k) for k in range(7)], kept)

    def test_at_most_sixteen(self):
        session = Session(EXAMPLE)
        self.assertEqual([session.record(("price", k)) for k in range(16)], list(range(16)))
        self.assertEqual(len(session), 16)
        for claim in (("price", 1), None, ("safe", (1, 0)), deep(0, 38)):
            self.assert_refused(session, LimitExceeded, ("limit", 16), "record", claim)
        self.assert_refused(session, InvalidClaim, None, "decide", None)
        self.assertEqual(session.decide(("price", 1))[0], "shown")

    def test_invalid_claims(self):
        session = Session(EXAMPLE)
        session.record(("safe", ()))
        for claim in (None, "safe", (), ("safe",), ("safe", [0]), ("safe", (True,)), ["safe", ()], ("clause", ()),
                      ("price", True), ("price", 1000), ("stays", (2, [])), ("stays", EXAMPLE, ()), deep(0, 38),
                      ("stays", (2, (deep(0, 35),))), tuple(range(50000))):
            self.assert_refused(session, InvalidClaim, None, "decide", claim)
            self.assert_refused(session, InvalidClaim, None, "record", claim)

    def test_unknown_ones(self):
        session = Session(EXAMPLE)
        for made in range(3):
            for number in [made] + NO_NUMBERS + [deep(0, 38)]:
                self.assert_refused(session, UnknownRecord, ("number", number), "recorded", number)
                self.assert_refused(session, UnknownRecord, ("number", number), "standing", number)
            session.record(("safe", ()))


class Model:
    """A second telling of a session's program: blocks are lists, and put and take change them in place."""

    def __init__(self, program):
        self.names = program[0]
        self.block = self.listed(program[1])

    def listed(self, block):
        return [(row[0], [self.listed(inner) for inner in (row[1] if row[0] == "choose" else row[1:])])
                if row[0] in ("choose", "loop") else row for row in block]

    def written(self, block):
        rows = []
        for row in block:
            if row[0] == "choose":
                row = ("choose", tuple(self.written(inner) for inner in row[1]))
            elif row[0] == "loop":
                row = ("loop", self.written(row[1][0]))
            rows.append(row)
        return tuple(rows)

    def program(self):
        return (self.names, self.written(self.block))

    def block_at(self, path):
        block = self.block
        for k in range(0, len(path) - 1, 2):
            block = block[path[k]][1][path[k + 1]]
        return block

    def paths(self, block=None, path=()):
        """The paths of all statements and of the ends of all blocks, and whether it is an end."""
        block = self.block if block is None else block
        for index, row in enumerate(block):
            yield path + (index,), False
            if row[0] in ("choose", "loop"):
                for which, inner in enumerate(row[1]):
                    yield from self.paths(inner, path + (index, which))
        yield path + (len(block),), True


class HistoryTest(Checks):
    def test_any_histories(self):
        """Edits, checkpoints and records in any order, beside a session that is told another way."""
        rng = random.Random(19)
        for _ in range(25):
            program = rng.choice((tangled_program, any_program))(rng)
            session, model, prices = Session(program), Model(program), EVEN
            checkpoints = []
            for _ in range(25):
                act = rng.choice(("put", "put", "take", "price", "checkpoint", "restore", "record"))
                if act == "put":
                    model = self.put(rng, session, model)
                elif act == "take":
                    self.take(rng, session, model)
                elif act == "price":
                    label, price = rng.randrange(8), rng.choice((0, 1, 2, 99))
                    session.set_price(label, price)
                    prices = prices[:label] + (price,) + prices[label + 1:]
                elif act == "checkpoint" and len(checkpoints) < 8:
                    self.assertEqual(session.checkpoint(), len(checkpoints))
                    checkpoints.append((model.program(), prices))
                elif act == "restore" and checkpoints:
                    number = rng.randrange(len(checkpoints))
                    session.restore(number)
                    model, prices = Model(checkpoints[number][0]), checkpoints[number][1]
                elif act == "record" and len(session) < 16:
                    self.record(rng, session, model.program(), prices)
                self.assert_has(session, model.program(), prices, checkpoints)

    def put(self, rng, session, model):
        path, end = rng.choice(list(model.paths()))
        names = model.names
        statement = rng.choice((any_step(rng, names), ("look", rng.randrange(names)), ("fresh", 0), ("loop", ()),
                                ("choose", ((any_step(rng, names),), ())), ("look", names)))
        other = copy.deepcopy(model)
        block = other.block_at(path)
        block[path[-1]:path[-1] + 1] = other.listed((statement,))
        if is_program(other.program()):
            session.put(path, statement)
            return other
        with self.assertRaises(InvalidProgram) as caught:
            require_program(other.program())
        self.assert_refused(session, InvalidProgram, ("path", caught.exception.path), "put", path, statement)
        return model

    def take(self, rng, session, model):
        path, end = rng.choice(list(model.paths()))
        if end:
            self.assert_refused(session, UnknownPath, ("path", path), "take", path)
        else:
            session.take(path)
            del model.block_at(path)[path[-1]]

    def record(self, rng, session, program, prices):
        claim, holds = rng.choice(list(any_claims(rng, program, any_other(rng, program), prices)))
        number = session.record(claim)
        self.assertEqual(number, len(session) - 1)
        self.assertEqual(session.recorded(number)[:2], ("shown" if holds else "broken", claim))

    def assert_has(self, session, program, prices, checkpoints):
        self.assertEqual((session.program(), session.prices()), (program, prices))
        self.assertEqual([session.program_at(k) for k in range(len(checkpoints))], [one for one, _ in checkpoints])
        for number in range(len(session)):
            self.assertEqual(session.standing(number), fault(program, session.recorded(number), prices))


if __name__ == "__main__":
    unittest.main()
