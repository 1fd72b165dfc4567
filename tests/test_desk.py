"""Desks: a program and a store that change and are changed back [38]."""

import random
import unittest

import chance
import wide
from firstmet.desk import Desk
from firstmet.errors import (BadIndex, BadMove, BadName, BadProgram, BadRows, BadStore, MetError, NothingDone, NotPlain,
                             TooLong, TooMany, Unlike)
from firstmet.alikes import is_parting
from firstmet.moves import is_right, moved, moves_of
from firstmet.programs import Program
from firstmet.running import run
from firstmet.tables import Store
from pairs import SHAPE, deep, made, out
from support import Case, anything, of, put, same, scan, seek, times

JOIN = scan("r", "t", scan("s", "u", same(of("r", "a"), of("s", "a"), out(of("r", "b"), adds=[
    times(1, of("s", "c"))]))))


class Desks(Case):
    def setUp(self):
        self.program = made([JOIN])
        self.store = Store(SHAPE, {"t": [(1, 5), (2, 6), (1, 6)], "u": [(1, 10), (2, 20)]})
        self.desk = Desk(self.program, self.store)

    def stands(self, program, store, desk=None):
        """The desk has just these, and its answer is theirs."""
        desk = desk or self.desk
        self.assertIs(desk.program.__class__, Program)
        self.assertIs(desk.store.__class__, Store)
        self.assertEqual((desk.program, desk.store), (program, store))
        self.assertEqual(desk.answer(), run(program, store))

    def fails(self, error, kept, call, *given):
        """The call raises the error, and nothing is changed by it."""
        program, store = self.desk.program, self.desk.store
        self.raises(error, kept, call, *given)
        self.stands(program, store)


class Deeds(Desks):
    def test_new(self):
        self.stands(self.program, self.store)
        self.assertEqual(self.desk.answer(), [((5,), (10,)), ((6,), (30,))])
        self.desk.answer().clear()
        self.assertEqual(self.desk.answer(), [((5,), (10,)), ((6,), (30,))])
        self.fails(NothingDone, [], self.desk.undo)

    def test_put(self):
        self.assertIsNone(self.leaves_alone(self.desk.put, "u", [1, 100]))
        self.stands(self.program, self.store.with_row("u", (1, 100)))
        self.desk.put("x", (3,))
        self.stands(self.program, self.store.with_row("u", (1, 100)).with_row("x", (3,)))
        self.assertEqual(self.store.rows_of("x"), [])

    def test_take(self):
        self.assertIsNone(self.leaves_alone(self.desk.take, "t", 0))
        self.stands(self.program, self.store.without_row("t", 0))
        self.desk.take("t", 1)
        self.stands(self.program, self.store.without_row("t", 0).without_row("t", 1))

    def test_move(self):
        self.assertIsNone(self.leaves_alone(self.desk.move, ("seek", (0, 0))))
        sought = moved(self.program, ("seek", (0, 0)))
        self.stands(sought, self.store)
        self.desk.move(("hold", (0, 0), "new"))
        self.stands(moved(sought, ("hold", (0, 0), "new")), self.store)
        self.assertEqual(self.program, made([JOIN]))

    def test_undo(self):
        self.desk.put("u", (1, 100))
        self.assertIsNone(self.desk.undo())
        self.stands(self.program, self.store)
        self.desk.take("t", 0)
        self.desk.undo()
        self.stands(self.program, self.store)
        self.desk.move(("seek", (0, 0)))
        self.desk.undo()
        self.stands(self.program, self.store)
        self.fails(NothingDone, [], self.desk.undo)

    def test_several_undos(self):
        states = [(self.program, self.store)]
        for deed in (lambda: self.desk.put("u", (1, 100)), lambda: self.desk.move(("seek", (0, 0))),
                     lambda: self.desk.take("t", 1), lambda: self.desk.put("u", (1, 100)),
                     lambda: self.desk.move(("hold", (0, 0), "new"))):
            deed()
            states.append((self.desk.program, self.desk.store))
        self.assertEqual(len(states), 6)
        for state in states[-2::-1]:
            self.desk.undo()
            self.stands(*state)
        self.fails(NothingDone, [], self.desk.undo)

    def test_undo_and_do_again(self):
        self.desk.put("x", (1,))
        self.desk.put("x", (2,))
        self.desk.undo()
        self.desk.put("x", (3,))
        self.assertEqual(self.desk.store.rows_of("x"), [(1,), (3,)])
        self.desk.undo()
        self.desk.undo()
        self.stands(self.program, self.store)
        self.fails(NothingDone, [], self.desk.undo)

    def test_two_desks(self):
        other = Desk(self.program, self.store)
        self.desk.put("x", (1,))
        self.stands(self.program, self.store, other)
        self.raises(NothingDone, [], other.undo)

    def test_a_long_run(self):
        rows = [(1, 1)] * 150
        desk = Desk(self.program, Store(SHAPE, {"t": rows, "u": rows}))
        self.raises(TooLong, [], desk.answer)
        desk.take("t", 0)
        desk.move(("seek", (0, 0)))
        desk.undo()
        desk.undo()
        self.raises(TooLong, [], desk.answer)


class Errors(Desks):
    def test_no_program_and_no_store(self):
        for thing in anything():
            if not isinstance(thing, Program):
                for store in (self.store, None):
                    self.raises(BadProgram, [thing], Desk, thing, store)
            if not isinstance(thing, Store) or thing.shape != SHAPE:
                self.raises(BadStore, [thing], Desk, self.program, thing)

    def test_put(self):
        for thing in anything():
            for row in ((1,), None):
                self.fails(BadName, [thing], self.desk.put, thing, row)
                self.fails(BadName, [thing], self.desk.changes, thing, row)
            if thing not in ([1], (1,)) or repr(thing) in ("[True]", "(True,)"):
                self.fails(BadRows, [("x", 0)], self.desk.put, "x", thing)
                self.fails(BadRows, [("x", 0)], self.desk.changes, "x", thing)
        for row in ((1,), (1, 2, 3), (1, True), (1, 10 ** 9 + 1), "ab"):
            self.fails(BadRows, [("t", 3)], self.desk.put, "t", row)
            self.fails(BadRows, [("t", 3)], self.desk.changes, "t", row)
        self.fails(NothingDone, [], self.desk.undo)

    def test_too_many_rows(self):
        full = Store(SHAPE, {"x": [(1,)] * 300})
        desk = Desk(self.program, full)
        for call in (desk.put, desk.changes):
            self.raises(TooMany, [], call, "t", (1, 1))
            self.raises(BadRows, [("t", 0)], call, "t", (1,))
            self.raises(BadRows, [("x", 300)], call, "x", ())
            self.raises(BadName, ["z"], call, "z", (1,))
        self.stands(self.program, full, desk)
        self.raises(NothingDone, [], desk.undo)

    def test_take(self):
        for thing in anything():
            self.fails(BadName, [thing], self.desk.take, thing, 0)
            self.fails(BadName, [thing], self.desk.take, thing, None)
            if repr(thing) not in ("0", "1", "2"):
                self.fails(BadIndex, [thing], self.desk.take, "t", thing)
        for at in (3, -1, True, False):
            self.fails(BadIndex, [at], self.desk.take, "t", at)
        self.fails(BadIndex, [0], self.desk.take, "x", 0)
        self.fails(NothingDone, [], self.desk.undo)

    def test_move(self):
        for thing in [*anything(), ("drop", 0), ("seek", (0,)), ["seek", (0, 0)], ("hold", (0, 0), "new")]:
            self.fails(BadMove, [thing], self.desk.move, thing)
        self.fails(NothingDone, [], self.desk.undo)

    def test_a_move_that_is_not_right(self):
        self.desk.put("x", (1,))
        behind = moved(self.program, ("turn", (0,)))
        with self.assertRaises(Unlike) as caught:
            self.desk.move(("turn", (0,)))
        store = caught.exception.value
        self.assertIs(is_parting(self.program, behind, store), True)
        self.assertNotEqual(run(self.program, store), run(behind, store))
        self.stands(self.program, self.store.with_row("x", (1,)))
        self.desk.undo()
        self.stands(self.program, self.store)

    def test_alike_cannot_be_asked(self):
        twice = scan("r", "x", scan("s", "x", out(of("r", "b"))))
        for error, kept, program, move in ((NotPlain, [0], made([twice]), ("turn", (0,))),
                                           (TooMany, [], made([deep(7, out(1))]), ("turn", (0,))),
                                           (BadMove, [("drop", 0)], made([deep(7, out(1))]), ("drop", 0))):
            desk = Desk(program, self.store)
            self.raises(error, kept, desk.move, move)
            self.assertEqual((desk.program, desk.store), (program, self.store))
            self.raises(NothingDone, [], desk.undo)

    def test_what_stands_cannot_be_assigned(self):
        for name in ("program", "store"):
            with self.assertRaises(AttributeError):
                setattr(self.desk, name, None)


class Changes(Desks):
    def test_by_hand(self):
        self.assertEqual(self.leaves_alone(self.desk.changes, "u", [1, 7]), ([], [], [((5,), (10,), (17,)),
                                                                                    ((6,), (30,), (37,))]))
        self.assertEqual(self.desk.changes("u", (2, 7)), ([], [], [((6,), (30,), (37,))]))
        self.assertEqual(self.desk.changes("u", (3, 7)), ([], [], []))
        self.assertEqual(self.desk.changes("t", (1, 9)), ([(9,)], [], []))
        self.assertEqual(self.desk.changes("x", (1,)), ([], [], []))
        self.stands(self.program, self.store)
        self.fails(NothingDone, [], self.desk.undo)

    def test_kinds(self):
        told = self.desk.changes("t", (1, 9))
        self.assertEqual([part.__class__ for part in told], [list, list, list])
        self.assertIs(told.__class__, tuple)
        told[0].clear()
        self.assertEqual(self.desk.changes("t", (1, 9))[0], [(9,)])

    def test_sums_that_stay(self):
        # The key is there, and gets a row that adds 0.
        self.assertEqual(self.desk.changes("u", (1, 0)), ([], [], []))

    def test_new_keys_in_order(self):
        program = made([scan("r", "u", scan("s", "x", out(of("s", "b"), adds=[times(1, of("r", "c"))])))])
        store = Store(SHAPE, {"x": [(3,), (1,), (2,)]})
        self.assertEqual(Desk(program, store).changes("u", (1, 4)), ([(3,), (1,), (2,)], [], []))
        store = store.with_row("u", (1, 4))
        self.assertEqual(Desk(program, store).changes("u", (1, 5)), ([], [], [
            ((3,), (4,), (9,)), ((1,), (4,), (9,)), ((2,), (4,), (9,))]))

    def test_new_keys_ahead_of_others(self):
        program = made([seek("r", "t", "a", 1, out(of("r", "b"))), scan("r", "t", out(of("r", "a")))])
        desk = Desk(program, Store(SHAPE, {"t": [(3, 9), (4, 9)]}))
        self.assertEqual(desk.changes("t", (1, 4)), ([(1,)], [], []))
        self.assertEqual(desk.changes("t", (1, 8)), ([(8,), (1,)], [], []))

    def test_a_long_run(self):
        rows = [(1, 1)] * 141
        desk = Desk(self.program, Store(SHAPE, {"t": rows, "u": rows[1:]}))
        self.assertEqual(len(desk.answer()), 1)
        self.raises(TooLong, [], desk.changes, "u", (1, 1))
        self.raises(TooLong, [], desk.changes, "t", (1, 1))
        self.assertEqual(desk.changes("x", (1,)), ([], [], []))
        long = Desk(self.program, Store(SHAPE, {"t": rows, "u": rows}))
        self.raises(TooLong, [], long.changes, "x", (1,))
        self.raises(BadRows, [("x", 0)], long.changes, "x", (1, 1))

    def test_drawn(self):
        source = random.Random(31)
        many = [0, 0]
        for _ in range(300):
            program = wide.program(source)
            desk = Desk(program, chance.store(source))
            name, fields = source.choice(program.shape.tables)
            row = tuple([source.choice(chance.VALUES) for _ in fields])
            try:
                new, gone, other = desk.changes(name, row)
                ahead = desk.answer()
                behind = run(program, desk.store.with_row(name, row))
            except TooLong:
                continue
            keys, later = dict(ahead), dict(behind)
            self.assertEqual(new, [key for key, _ in behind if key not in keys])
            self.assertEqual(gone, [])
            self.assertEqual(other, [(key, sums, later[key]) for key, sums in ahead if later[key] != sums])
            many[0] += len(new)
            many[1] += len(other)
        self.assertTrue(min(many) > 20, many)


class Trying(Desks):
    def test_what_is_returned(self):
        self.desk.put("x", (1,))
        told = []

        def deed(desk):
            self.assertIs(desk, self.desk)
            desk.put("x", (2,))
            desk.move(("seek", (0, 0)))
            desk.take("t", 0)
            told.append((desk.program, desk.store, desk.answer()))
            return told
        self.assertIs(self.desk.trying(deed), told)
        program, store, answer = told[0]
        self.assertEqual(program, moved(self.program, ("seek", (0, 0))))
        self.assertEqual(store, self.store.with_row("x", (1,)).with_row("x", (2,)).without_row("t", 0))
        self.assertEqual(answer, run(program, store))
        self.stands(self.program, self.store.with_row("x", (1,)))
        self.desk.undo()
        self.stands(self.program, self.store)
        self.fails(NothingDone, [], self.desk.undo)

    def test_nothing(self):
        self.assertIsNone(self.desk.trying(lambda desk: None))
        self.assertEqual(self.desk.trying(lambda desk: desk.changes("t", (1, 9))), ([(9,)], [], []))
        self.stands(self.program, self.store)

    def test_a_deed_that_raises(self):
        self.desk.put("x", (1,))
        for error in (KeyError("a"), ValueError("b"), ZeroDivisionError(), BadName("q"), KeyboardInterrupt()):
            def deed(desk):
                desk.move(("seek", (0, 0)))
                desk.undo()
                desk.undo()
                desk.put("x", (2,))
                raise error
            with self.assertRaises(error.__class__) as caught:
                self.desk.trying(deed)
            self.assertIs(caught.exception, error)
            self.stands(self.program, self.store.with_row("x", (1,)))
        self.desk.undo()
        self.stands(self.program, self.store)

    def test_an_error_of_a_deed_goes_on(self):
        def deed(desk):
            desk.put("x", (1,))
            desk.put("x", ())
        self.fails(BadRows, [("x", 1)], self.desk.trying, deed)
        self.fails(BadMove, [None], self.desk.trying, lambda desk: desk.move(None))
        self.fails(NothingDone, [], self.desk.trying, lambda desk: desk.undo())

    def test_a_deed_that_undoes_more_than_it_did(self):
        self.desk.put("x", (1,))
        self.desk.put("x", (2,))

        def deed(desk):
            desk.put("x", (3,))
            desk.undo()
            desk.undo()
            desk.undo()
            self.raises(NothingDone, [], desk.undo)
            desk.put("y", (4,))
        self.desk.trying(deed)
        self.stands(self.program, self.store.with_row("x", (1,)).with_row("x", (2,)))
        self.desk.undo()
        self.stands(self.program, self.store.with_row("x", (1,)))
        self.desk.undo()
        self.stands(self.program, self.store)
        self.fails(NothingDone, [], self.desk.undo)

    def test_trying_in_trying(self):
        def inner(desk):
            desk.undo()
            desk.put("y", (4,))
            return desk.store

        def outer(desk):
            desk.put("x", (1,))
            store = desk.trying(inner)
            self.assertEqual(store, self.store.with_row("y", (4,)))
            self.stands(self.program, self.store.with_row("x", (1,)))
            desk.undo()
            self.stands(self.program, self.store)
            desk.put("x", (5,))
            return desk.store
        self.assertEqual(self.desk.trying(outer), self.store.with_row("x", (5,)))
        self.stands(self.program, self.store)
        self.fails(NothingDone, [], self.desk.undo)

    def test_a_deed_of_another_desk(self):
        other = Desk(self.program, self.store)
        self.desk.trying(lambda desk: other.put("x", (1,)))
        self.stands(self.program, self.store)
        self.stands(self.program, self.store.with_row("x", (1,)), other)


class Drawn(Desks):
    def test_deeds_and_undos(self):
        source = random.Random(37)
        moves = unlike = 0
        for _ in range(120):
            program = wide.program(source, tame=True, givens=source.random() < 0.3)
            desk = Desk(program, chance.store(source))
            states = []
            for _ in range(6):
                state = (desk.program, desk.store)
                try:
                    self.deed(source, desk)
                    states.append(state)
                    moves += desk.program != state[0]
                except Unlike as error:
                    unlike += 1
                    self.assertIs(error.value.__class__, Store)
                    self.assertEqual((desk.program, desk.store), state)
                except MetError:
                    self.assertEqual((desk.program, desk.store), state)
            for state in states[::-1]:
                desk.undo()
                self.assertEqual((desk.program, desk.store), state)
            self.raises(NothingDone, [], desk.undo)
        self.assertGreater(moves, 20)
        self.assertGreater(unlike, 20)

    def deed(self, source, desk):
        name, fields = source.choice(desk.store.shape.tables)
        kind = source.choice(("put", "take", "move", "move"))
        if kind == "put":
            desk.put(name, [source.choice(chance.VALUES) for _ in fields])
        elif kind == "take":
            desk.take(name, source.randint(0, 3))
        else:
            moves = moves_of(desk.program, "new")
            if moves:
                move = source.choice(moves)
                ahead = desk.program
                desk.move(move)
                self.assertEqual(desk.program, moved(ahead, move))
                self.assertIs(is_right(ahead, move), True)
            else:
                desk.put(name, [0 for _ in fields])


if __name__ == "__main__":
    unittest.main()
