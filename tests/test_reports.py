"""Programs made quicker step by step, and reports of it [31]."""

import random
import unittest

import chance
import wide
from firstmet.alikes import alike_paper, is_alike_paper
from firstmet.errors import BadName, BadProgram, BadStore, MetError, NotPlain, TooLong, TooMany
from firstmet.moves import is_right, moved, moves_of
from firstmet.programs import Program
from firstmet.reports import is_report, quicker
from firstmet.running import run, turns
from firstmet.tables import Shape, Store
from pairs import HELD, SHAPE, deep, made, out
from support import SALES, Case, anything, each, of, put, same, scan, seek, times


def behind(program, steps):
    """The program that comes of the moves of all these steps."""
    for move, _ in steps:
        program = moved(program, move)
    return program


def plainly_quicker(program, store, name):
    """The moves and the programs that the document tells, found by trying all moves."""
    told = []
    for letter in "abcdefgh":
        best = None
        for move in moves_of(program, name + letter):
            try:
                if not is_right(program, move):
                    continue
                many = turns(moved(program, move), store)
            except (NotPlain, TooMany, TooLong):
                continue
            if many < turns(program, store) and (best is None or many < best[0]):
                best = (many, move)
        if best is None:
            break
        program = moved(program, best[1])
        told.append((best[1], program))
    return told


class Reports(Case):
    def join(self, *more):
        """For each row of t and each row of u with the same a its c."""
        inner = out(of("r", "b"), adds=[times(1, of("s", "c"))])
        return made([scan("r", "t", scan("s", "u", same(of("r", "a"), of("s", "a"), inner))), *more])

    def store(self, many=9):
        rows = [(at % 3, at) for at in range(many)]
        return Store(SHAPE, {"t": rows, "u": rows, "x": [(1,)]})

    def steps(self, program, store, name="new"):
        """The steps that are told, once they have been held against what the document says."""
        told = self.leaves_alone(quicker, program, store, name)
        self.assertIs(told.__class__, list)
        plain = plainly_quicker(program, store, name)
        self.assertEqual([step.__class__ for step in told], [tuple] * len(told))
        self.assertEqual([move for move, _ in told], [move for move, _ in plain])
        ahead = program
        for (_, paper), (_, later) in zip(told, plain):
            self.assertIs(is_alike_paper(ahead, later, paper), True)
            self.assertLess(turns(later, store), turns(ahead, store))
            ahead = later
        self.assertIs(self.leaves_alone(is_report, program, ahead, told), True)
        self.assertEqual(run(program, store), run(ahead, store))
        return told


class Quicker(Reports):
    def test_several_steps(self):
        program = self.join()
        told = self.steps(program, self.store())
        self.assertEqual([move for move, _ in told], [("seek", (0, 0)), ("hold", (0, 0), "newb")])
        self.assertEqual(behind(program, told), made([
            scan("s", "u", put("newb", [of("s", "a")], [times(1, of("s", "c"))])),
            scan("r", "t", ("look", "s", "newb", (of("r", "a"),), (
                out(of("r", "b"), adds=[times(1, of("s", "s"))]),)))], ("newb", ("a",), ("s",))))

    def test_none(self):
        for program in (made([out()], many=0), made([scan("r", "x", out(of("r", "b")))]), self.join()):
            self.assertEqual(self.steps(program, Store(SHAPE, {})), [])
        self.assertEqual(self.steps(made([scan("r", "x", out(of("r", "b")))]), Store(SHAPE, {"x": [(1,), (2,)]})), [])

    def test_the_store_decides(self):
        # With one row of t the scan of u, which a hold would make, is not worth its turns.
        store = Store(SHAPE, {"t": [(1, 1)], "u": [(1, at) for at in range(5)] + [(2, 0)]})
        self.assertEqual([move for move, _ in self.steps(self.join(), store)], [("seek", (0, 0))])

    def test_the_first_of_two_that_lower_alike(self):
        x = scan("r", "x", out(of("r", "b")))
        y = scan("r", "y", put("h", [of("r", "b")], []))
        store = Store(SHAPE, {"x": [(1,), (2,)], "y": [(1,), (2,)]})
        self.assertEqual([move for move, _ in self.steps(made([x, x, y], HELD), store)], [("drop", 0), ("drop", 1)])
        two = made([scan("r", "x", out(of("r", "b"))), scan("r", "x", put("h", [of("r", "b")], []))], HELD)
        self.assertEqual([move for move, _ in self.steps(two, store)], [("fuse", 0)])

    def test_most_that_lowers(self):
        x = scan("r", "x", out(of("r", "b")))
        y = scan("r", "y", put("h", [of("r", "b")], []))
        w = scan("r", "w", put("h", [of("r", "d")], []))
        store = Store(SHAPE, {"x": [(1,)], "y": [(1,), (2,)], "w": [(1, 1, 1)] * 5})
        self.assertEqual([move for move, _ in self.steps(made([x, y, w], HELD), store)], [("drop", 2), ("drop", 1)])

    def test_at_most_eight_steps(self):
        inner = scan("r", "x", put("h", [of("r", "b")], []))
        program = made([scan("r", "x", out(of("r", "b"))), *[inner] * 10], HELD)
        told = self.steps(program, Store(SHAPE, {"x": [(1,)]}))
        self.assertEqual(len(told), 8)
        self.assertEqual(len(behind(program, told).body), 3)

    def test_names(self):
        for name in ("a", "new", "abcdefg"):
            told = self.steps(self.join(), self.store(), name)
            self.assertEqual(told[1][0], ("hold", (0, 0), f"{name}b"))
        # A block that is there already has the name that the second step would give.
        blocks = made([*self.join().body], ("newb", (), ("s",)))
        self.assertEqual([move for move, _ in self.steps(blocks, self.store())], [("seek", (0, 0))])

    def test_no_keys(self):
        inner = out(adds=[times(1, of("s", "c"))])
        program = made([scan("r", "t", scan("s", "u", same(of("r", "a"), of("s", "a"), inner)))], many=0)
        self.assertEqual([move for move, _ in self.steps(program, self.store())],
                         [("seek", (0, 0)), ("hold", (0, 0), "newb")])

    def test_each_is_new(self):
        program, store = self.join(), self.store()
        quicker(program, store, "new").clear()
        self.assertEqual(len(quicker(program, store, "new")), 2)


class Errors(Reports):
    def test_no_program_and_no_store(self):
        for thing in anything():
            if not isinstance(thing, Program):
                for store in (self.store(), None):
                    for name in ("new", None):
                        self.raises(BadProgram, [thing], quicker, thing, store, name)
            if not isinstance(thing, Store) or thing.shape != SHAPE:
                for name in ("new", None):
                    self.raises(BadStore, [thing], quicker, self.join(), thing, name)

    def test_no_name(self):
        twice = made([scan("r", "x", scan("s", "x", out(of("r", "b"))))])
        for name in (*[thing for thing in anything() if thing not in ("a", "sale")], "abcdefgh", "abcdefghi", "A"):
            for program in (self.join(), twice):
                self.raises(BadName, [name], quicker, program, self.store(), name)

    def test_alike_cannot_be_asked(self):
        long = Store(SHAPE, {"x": [(at,) for at in range(150)]})
        twice = scan("r", "x", scan("s", "x", out(of("r", "b"))))
        self.raises(NotPlain, [0], quicker, made([twice]), long, "new")
        self.raises(NotPlain, [1], quicker, made([scan("r", "x", out(of("r", "b"))), twice]), long, "new")
        self.raises(TooMany, [], quicker, made([deep(7, out(1))]), long, "new")
        self.raises(TooMany, [], quicker, made([deep(7, out(1)), twice]), long, "new")
        fill = scan("r", "t", seek("s", "u", "a", of("r", "a"), seek("k", "w", "d", of("r", "b"), put(
            "h", [of("r", "a")], [times(1)]))))
        sums = each("e", "h", out(of("e", "g"), adds=[times(1, *[of("e", "s")] * 3)]))
        self.raises(TooMany, [], quicker, made([fill, sums], HELD), long, "new")
        self.raises(NotPlain, [1], quicker, made([fill, sums, twice], HELD), long, "new")

    def test_a_long_run(self):
        x = scan("r", "x", put("h", [of("r", "b")], []))
        two = scan("r", "x", scan("s", "y", put("h", [of("r", "b")], [])))
        store = Store(SHAPE, {"x": [(at,) for at in range(150)], "y": [(at,) for at in range(150)]})
        self.raises(TooLong, [], quicker, made([two, out()], HELD, many=0), store, "new")
        self.assertEqual(quicker(made([x, out()], HELD, many=0), store, "new")[0][0], ("drop", 0))

    def test_moves_with_a_long_run_are_not_taken(self):
        inner = seek("s", "u", "a", of("r", "a"), out(of("r", "b"), adds=[times(1, of("s", "c"))]))
        program = made([scan("r", "t", inner)])
        store = Store(SHAPE, {"t": [(at, at) for at in range(150)], "u": [(at, at) for at in range(149)]})
        with self.assertRaises(TooLong):
            turns(moved(program, ("scan", (0, 0))), store)
        self.assertEqual(self.steps(program, store), [])


class IsReport(Reports):
    def setUp(self):
        x = scan("r", "x", out(of("r", "b")))
        self.one = made([*self.join().body, x, x])
        self.told = self.steps(self.one, self.store())
        self.other = behind(self.one, self.told)
        self.assertEqual([move[0] for move, _ in self.told], ["seek", "hold", "drop"])

    def is_refused(self, thing):
        self.assertIs(self.leaves_alone(is_report, self.one, self.other, thing), False)

    def test_rows(self):
        self.assertIs(is_report(self.one, self.other, self.told), True)
        self.assertIs(is_report(self.one, self.other, tuple(self.told)), True)
        for thing in anything():
            self.is_refused(thing)
            self.is_refused([thing])
            self.is_refused([*self.told, thing])

    def test_steps_left_out_doubled_and_turned_about(self):
        for at, step in enumerate(self.told):
            self.is_refused(self.told[:at] + self.told[at + 1:])
            self.is_refused(self.told[:at] + [step] + self.told[at:])
        self.is_refused(self.told[::-1])
        self.is_refused([])

    def test_other_moves_and_papers(self):
        for at, (move, paper) in enumerate(self.told):
            def with_step(step):
                return self.told[:at] + [step] + self.told[at + 1:]
            ahead = behind(self.one, self.told[:at])
            for other in moves_of(ahead, "other"):
                if moved(ahead, other) != moved(ahead, move):
                    self.is_refused(with_step((other, paper)))
            for thing in anything():
                self.is_refused(with_step((thing, paper)))
                self.is_refused(with_step((move, thing)))
            for thing in ([move, paper], (paper, move), (move,), (move, paper, ()), (list(move), paper),
                          (move, list(paper)), (move, paper[::-1]), ((move, paper), (move, paper)), move, paper):
                self.is_refused(with_step(thing))
            for _, another in self.told:
                if another != paper:
                    self.is_refused(with_step((move, another)))

    def test_other_programs(self):
        for program in (self.one, made([out(1)]), made([put("out", [1], [], [])], sums=2),
                        Program(SALES, (("paid", (), ("n",)),), (("put", "paid", (), ((),)),))):
            self.assertIs(is_report(self.one, program, self.told), False)
        for program in (self.other, made([out(1)]), moved(self.one, ("drop", 0))):
            self.assertIs(is_report(program, self.other, self.told), False)

    def test_a_move_that_is_not_right(self):
        x, y = [scan("r", name, out(of("r", "b"))) for name in "xy"]
        one, other = made([x, y]), made([y, x])
        self.assertIsNone(alike_paper(one, other))
        for paper in (None, (), ((), ()), alike_paper(one, one)):
            self.assertIs(is_report(one, other, [(("swap", 0), paper)]), False)

    def test_steps_that_take_more_turns(self):
        program = made([scan("r", "t", seek("s", "u", "a", of("r", "a"), out(of("r", "b"))))])
        there = moved(program, ("scan", (0, 0)))
        steps = [(("scan", (0, 0)), alike_paper(program, there)), (("seek", (0, 0)), alike_paper(there, program))]
        self.assertIs(is_report(program, there, steps[:1]), True)
        self.assertIs(is_report(program, program, steps), True)
        self.assertIs(is_report(program, program, steps * 10), True)
        self.assertIs(is_report(program, there, steps), False)

    def test_the_empty_row(self):
        again = made(list(self.one.body), shape=Shape(list(SHAPE.tables)))
        for thing in ([], ()):
            self.assertIs(is_report(self.one, self.one, thing), True)
            self.assertIs(is_report(self.one, again, thing), True)
            self.assertIs(is_report(self.one, self.other, thing), False)
        many = made([deep(7, out(1))])
        self.assertIs(is_report(many, many, []), True)

    def test_what_would_be_an_error_makes_it_false(self):
        many = made([deep(7, out(1)), deep(7, out(1))])
        twice = made([scan("r", "x", scan("s", "x", out(of("r", "b")))), out(1)])
        for program in (many, twice):
            with self.assertRaises((NotPlain, TooMany)):
                is_right(program, ("drop", 0))
            for paper in ((), ((), ()), (((), ()), ((),)), None):
                self.assertIs(is_report(program, moved(program, ("drop", 0)), [(("drop", 0), paper)]), False)
        other = made([put("out", [1], [], [])], sums=2)
        self.assertIs(is_report(many, other, []), False)

    def test_no_program(self):
        for thing in anything():
            if not isinstance(thing, Program):
                for steps in ([], None, self.told):
                    self.raises(BadProgram, [thing], is_report, thing, self.other, steps)
                    self.raises(BadProgram, [thing], is_report, self.one, thing, steps)
                    self.raises(BadProgram, [thing], is_report, thing, None, steps)


class Drawn(Reports):
    def test_drawn_programs(self):
        source = random.Random(3)
        many = []
        while len(many) < 40:
            shape = source.choice((chance.SHAPE, Shape([("t", ["a", "b"])])))
            program = wide.program(source, tame=True, givens=source.random() < 0.3, shape=shape)
            store = chance.store(source, most=9, shape=shape)
            try:
                steps = self.steps(program, store)
            except MetError:
                continue
            many.append(len(steps))
        self.assertTrue(all([many.count(so_many) > 0 for so_many in (0, 1, 2)]), many)


if __name__ == "__main__":
    unittest.main()
