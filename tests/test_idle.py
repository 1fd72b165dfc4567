"""Tables that are idle, stores that stir [36], and top statements that are needless [37]."""

import random
import unittest

import chance
import wide
from firstmet.errors import BadName, BadProgram, MetError, NotPlain, TooLong, TooMany
from firstmet.idle import idle_tables, is_stirring, lean, needless, stirring
from firstmet.moves import is_right, moved
from firstmet.programs import Program
from firstmet.running import run
from firstmet.tables import Shape, Store
from pairs import HELD, SHAPE, deep, made, out
from support import Case, anything, each, look, of, put, same, scan, seek, times

TABLES = [name for name, _ in SHAPE.tables]
X, Y = [scan("r", name, out(of("r", "b"))) for name in "xy"]
# A program of which alike cannot be asked, for each error, and it.
TWICE = scan("r", "x", scan("s", "x", out(of("r", "b"))))
FILL = scan("r", "t", seek("s", "u", "a", of("r", "a"), seek("k", "w", "d", of("r", "b"), put(
    "h", [of("r", "a")], [times(1)]))))
CUBED = each("e", "h", out(of("e", "g"), adds=[times(1, *[of("e", "s")] * 3)]))
UNASKED = [(TooMany, [], made([deep(7, out(1))])), (NotPlain, [0], made([TWICE])), (NotPlain, [1], made([X, TWICE])),
           (TooMany, [], made([deep(7, out(1)), TWICE])), (TooMany, [], made([FILL, CUBED], HELD)),
           (NotPlain, [1], made([FILL, CUBED, TWICE], HELD))]


class Tables(Case):
    def are_idle(self, program, *tables):
        """Just these tables are idle; each other one has stores that stir."""
        told = self.leaves_alone(idle_tables, program)
        self.assertEqual(told, list(tables))
        for table, _ in program.shape.tables:
            stores = self.leaves_alone(stirring, program, table)
            self.assertIs(stores is None, table in tables, table)
            if stores is not None:
                self.stirs(program, table, stores)
        told.append(1)
        self.assertEqual(idle_tables(program), list(tables))

    def stirs(self, program, table, stores):
        self.assertIs(stores.__class__, tuple)
        one, other = stores
        self.assertEqual((one.shape, other.shape), (program.shape, program.shape))
        for name, _ in program.shape.tables:
            self.assertIs(one.rows_of(name) == other.rows_of(name), name != table)
        self.assertNotEqual(run(program, one), run(program, other))
        self.assertIs(self.leaves_alone(is_stirring, program, table, stores), True)
        self.assertIs(is_stirring(program, table, stores[::-1]), True)
        for name, _ in program.shape.tables:
            if name != table:
                self.assertIs(is_stirring(program, name, stores), False)


class Idle(Tables):
    def test_in_no_nest(self):
        self.are_idle(made([X]), "t", "u", "w", "y")
        self.are_idle(made([X, Y]), "t", "u", "w")
        join = scan("r", "t", seek("s", "u", "a", of("r", "a"), out(of("r", "b"))))
        self.are_idle(made([join]), "w", "x", "y")

    def test_in_a_covered_nest_alone(self):
        join = scan("r", "x", seek("s", "y", "b", of("r", "b"), out(of("r", "b"))))
        self.are_idle(made([X, join]), "t", "u", "w", "y")
        # Turned about it stays: it decides the order.
        self.are_idle(made([join, X]), "t", "u", "w")

    def test_in_a_nest_that_stays_with_keys_that_others_give(self):
        join = scan("r", "x", seek("s", "y", "b", of("r", "b"), out(of("r", "b"))))
        for body in ([join, X], [scan("r", "t", out(of("r", "a"))), join, X],
                     [join, scan("r", "x", seek("s", "t", "a", of("r", "b"), out(of("r", "b")))), X]):
            self.assertNotIn("y", idle_tables(made(body)))
            self.are_idle(made(body), *[name for name in "tuwxy" if name not in repr([
                statement[2] for top in body for statement in (top, top[-1][0]) if statement[0] != "put"])])

    def test_in_a_sum_pattern_alone(self):
        join = scan("r", "x", seek("s", "y", "b", of("r", "b"), out(of("r", "b"), adds=[times(3)])))
        self.are_idle(made([X, join]), "t", "u", "w")
        self.are_idle(made([out(adds=[times(1)]), scan("r", "x", out(adds=[times(2, of("r", "b"))]))], many=0),
                      "t", "u", "w", "y")
        last = scan("r", "x", seek("s", "y", "b", of("r", "b"), put("out", [of("r", "b")], [], [times(3)])))
        self.are_idle(made([scan("r", "x", put("out", [of("r", "b")], [], [])), last], sums=2), "t", "u", "w")

    def test_in_a_sum_pattern_that_cancels(self):
        def join(many):
            return scan("r", "x", seek("s", "y", "b", of("r", "b"), out(of("r", "b"), adds=[times(many)])))
        self.are_idle(made([X, join(3), join(-3)]), "t", "u", "w", "y")
        self.are_idle(made([X, join(3), join(-2)]), "t", "u", "w")
        self.are_idle(made([out(), scan("r", "x", out(adds=[times(2), times(-2)]))], many=0), *TABLES)

    def test_no_keys(self):
        self.are_idle(made([out()], many=0), *TABLES)
        self.are_idle(made([scan("r", "x", out())], many=0), "t", "u", "w", "y")
        self.are_idle(made([scan("r", "x", out()), out()], many=0), *TABLES)
        # Into the nest with y there is a map from one without it.
        join = scan("r", "x", scan("s", "y", out()))
        self.are_idle(made([join, scan("r", "x", out())], many=0), "t", "u", "w", "y")
        self.are_idle(made([scan("r", "x", out()), join], many=0), "t", "u", "w", "y")
        self.are_idle(made([join, scan("r", "t", out())], many=0), "u", "w")
        narrow = seek("r", "x", "b", 1, out())
        self.are_idle(made([narrow, scan("r", "x", scan("s", "y", out()))], many=0), "t", "u", "w")
        self.are_idle(made([narrow, seek("r", "x", "b", 1, scan("s", "y", out()))], many=0), "t", "u", "w", "y")
        # A table may stand twice there.
        self.are_idle(made([scan("r", "x", scan("s", "x", out()))], many=0), "t", "u", "w", "y")

    def test_no_nest_stays(self):
        self.are_idle(made([put("h", [1], [])], HELD), *TABLES)
        self.are_idle(made([same(1, 2, X)]), *TABLES)
        self.are_idle(made([same(1, 2, scan("r", "x", out(adds=[times(1)])))], many=0), *TABLES)
        # A block whose nest is empty has no entries.
        fill = same(1, 2, scan("r", "x", put("h", [of("r", "b")], [times(1)])))
        read = look("e", "h", [of("s", "b")], out(of("s", "b"), adds=[times(1, of("e", "s"))]))
        self.are_idle(made([fill, scan("s", "y", read)], HELD), *TABLES)

    def test_given_values(self):
        self.are_idle(made([seek("r", "t", "a", 1, out(of("r", "b")))]), "u", "w", "x", "y")
        self.are_idle(made([seek("r", "t", "a", 1, seek("s", "u", "a", of("r", "b"), out(of("r", "b"), 7)))], many=2),
                      "w", "x", "y")
        joined = seek("s", "y", "b", of("r", "b"), out(7, of("r", "b")))
        self.are_idle(made([scan("r", "x", joined), scan("r", "x", out(7, of("r", "b")))], many=2), "t", "u", "w")

    def test_blocks_on_the_way(self):
        fill = scan("q", "u", put("h", [of("q", "a")], [times(1, of("q", "c"))]))
        body = [fill, scan("r", "x", look("e", "h", [of("r", "b")], out(of("r", "b"), adds=[times(1, of("e", "s"))])))]
        self.are_idle(made(body, HELD), "t", "w", "y")
        self.are_idle(made([*body, X], HELD), "t", "w", "y")
        nothing = scan("r", "x", look("e", "h", [of("r", "b")], out(of("r", "b"))))
        self.are_idle(made([fill, X, nothing], HELD), "t", "u", "w", "y")
        self.are_idle(made([fill, nothing, X], HELD), "t", "w", "y")

    def test_errors(self):
        for thing in anything():
            if not isinstance(thing, Program):
                self.raises(BadProgram, [thing], idle_tables, thing)
                for table in ("x", None):
                    self.raises(BadProgram, [thing], stirring, thing, table)
                    self.raises(BadProgram, [thing], is_stirring, thing, table, None)
        for error, kept, program in UNASKED:
            self.raises(error, kept, idle_tables, program)
            for table in ("x", "y"):
                self.raises(error, kept, stirring, program, table)
        for thing in [*anything(), "h", "out", "r"]:
            for program in (made([X]), *[program for _, _, program in UNASKED]):
                self.raises(BadName, [thing], stirring, program, thing)
                for stores in (None, (Store(SHAPE, {}), Store(SHAPE, {}))):
                    self.raises(BadName, [thing], is_stirring, program, thing, stores)


class IsStirring(Tables):
    def setUp(self):
        self.made = made([X])
        self.one = Store(SHAPE, {"x": [(1,), (2,)], "y": [(5,)]})
        self.other = Store(SHAPE, {"x": [(2,), (1,)], "y": [(5,)]})

    def judged(self, thing, right, table="x", program=None):
        self.assertIs(self.leaves_alone(is_stirring, program or self.made, table, thing), right)

    def test_stores(self):
        self.judged((self.one, self.other), True)
        self.judged((self.other, self.one), True)
        again = Shape([(name, list(fields)) for name, fields in SHAPE.tables])
        self.judged((Store(again, {"x": [[3]], "y": [[5]]}), self.one), True)

    def test_equal_answers(self):
        self.judged((self.one, self.one), False)
        self.judged((self.one, Store(SHAPE, {"x": [(1,), (2,), (1,)], "y": [(5,)]})), False)
        self.judged((Store(SHAPE, {"x": [(1,)]}), Store(SHAPE, {"x": [(1,)], "y": [(1,)]})), False, "y")

    def test_another_table_that_differs(self):
        for rows in ([], [(6,)], [(5,), (5,)]):
            self.judged((self.one, Store(SHAPE, {"x": [(2,)], "y": rows})), False)
        self.judged((self.one, self.other), False, "y")
        self.judged((self.one, Store(SHAPE, {"x": [(2,)], "y": [(5,)], "t": [(1, 1)]})), False)

    def test_other_shapes(self):
        other = Store(Shape([("x", ("b",)), ("y", ("b",))]), {"x": [(9,)], "y": [(5,)]})
        for thing in ((self.one, other), (other, self.one), (other, other)):
            self.judged(thing, False)

    def test_other_things(self):
        for thing in ([self.one, self.other], (self.one,), (self.one, self.other, self.other), (), self.one, None):
            self.judged(thing, False)
        for thing in anything():
            self.judged(thing, False)
            for pair in ((self.one, thing), (thing, self.one), (thing, thing)):
                self.judged(pair, False)

    def test_a_long_run(self):
        program = made([scan("r", "x", scan("s", "y", put("h", [1], []))), X], HELD)
        rows = [(at,) for at in range(150)]
        short = Store(SHAPE, {"y": rows})
        long = Store(SHAPE, {"y": rows, "x": rows})
        for pair in ((short, long), (long, short), (long, long.without_row("x", 0))):
            self.judged(pair, False, program=program)
        self.judged((short, short.with_row("x", (1,))), True, program=program)

    def test_programs_that_are_not_plain(self):
        for _, _, program in UNASKED:
            self.judged((self.one, self.one), False, program=program)
        self.judged((self.one, self.other), True, program=made([TWICE]))


class Needless(Case):
    def are_needless(self, program, *indexes, left=None):
        told = self.leaves_alone(needless, program)
        self.assertEqual(told, list(indexes))
        behind = self.leaves_alone(lean, program)
        self.assertIs(behind.__class__, Program)
        by_hand = program
        while needless(by_hand) != []:
            by_hand = moved(by_hand, ("drop", needless(by_hand)[0]))
        self.assertEqual(behind, by_hand)
        if left is not None:
            self.assertEqual(list(behind.body), [program.body[at] for at in left])
        told.append(7)
        self.assertEqual(needless(program), list(indexes))

    def test_none(self):
        self.are_needless(made([X]), left=[0])
        self.are_needless(made([X, Y]), left=[0, 1])
        self.are_needless(made([out()], many=0), left=[0])

    def test_one(self):
        join = scan("r", "x", seek("s", "y", "b", of("r", "b"), out(of("r", "b"))))
        self.are_needless(made([X, join]), 1, left=[0])
        self.are_needless(made([scan("r", "y", put("h", [1], [])), X], HELD), 0, left=[1])
        self.are_needless(made([X, same(1, 2, Y)]), 1, left=[0])
        self.are_needless(made([join, X]), left=[0, 1])

    def test_two_that_are_needless_alone(self):
        self.are_needless(made([X, X]), 0, 1, left=[1])
        three = [scan("r", "x", out(of("r", "b"), adds=[times(many)])) for many in (2, -2)]
        self.are_needless(made([X, *three]), 0, left=[1, 2])
        self.are_needless(made([X, X, Y, Y]), 0, 1, 2, 3, left=[1, 3])

    def test_what_cannot_be_dropped(self):
        fill = scan("q", "u", put("h", [of("q", "a")], [times(1)]))
        read = scan("r", "x", look("e", "h", [of("r", "b")], out(of("r", "b"))))
        self.are_needless(made([X, fill, read], HELD), 2, left=[0])
        self.are_needless(made([same(1, 2, X)]), left=[0])
        self.are_needless(made([put("h", [1], []), put("h", [2], [])], HELD), 0, 1, left=[1])

    def test_what_shows_only_later(self):
        fill = scan("q", "x", put("h", [of("q", "b")], [times(1)]))
        again = each("e", "h", put("k", [of("e", "g")], [times(1, of("e", "s"))]))
        self.are_needless(made([fill, again, X], HELD, ("k", ("j",), ("i",))), 1, left=[2])

    def test_a_drop_of_which_alike_cannot_be_asked(self):
        # The one nest with a given value is plain alone; the program of both is not, so that nothing can be asked.
        one = seek("r", "t", "a", 1, out(of("r", "b")))
        self.raises(NotPlain, [0], needless, made([one, X]))
        self.are_needless(made([one]), left=[0])

    def test_errors(self):
        for thing in anything():
            if not isinstance(thing, Program):
                self.raises(BadProgram, [thing], needless, thing)
                self.raises(BadProgram, [thing], lean, thing)
        for error, kept, program in UNASKED:
            self.raises(error, kept, needless, program)
            self.raises(error, kept, lean, program)


class Drawn(Tables):
    def test_tables(self):
        source = random.Random(23)
        idle = stirred = 0
        while idle < 100 or stirred < 100:
            program = wide.program(source, tame=True, givens=source.random() < 0.3)
            try:
                tables = idle_tables(program)
            except MetError:
                continue
            self.are_idle(program, *tables)
            stirred += len(program.shape.tables) - len(tables)
            for table in tables:
                idle += 1
                for _ in range(4):
                    store, more = chance.store(source), chance.store(source)
                    rows = {name: (more if name == table else store).rows_of(name) for name, _ in store.shape.tables}
                    try:
                        self.assertEqual(run(program, store), run(program, Store(store.shape, rows)))
                    except TooLong:
                        pass

    def test_statements(self):
        source = random.Random(29)
        dropped = 0
        for _ in range(300):
            program = wide.program(source, tame=True, givens=source.random() < 0.3)
            try:
                waste = needless(program)
            except MetError:
                continue
            for at in range(len(program.body)):
                try:
                    right = is_right(program, ("drop", at))
                except MetError:
                    right = False
                self.assertIs(right, at in waste)
            behind = lean(program)
            self.assertEqual(needless(behind), [])
            dropped += len(program.body) - len(behind.body)
            for _ in range(3):
                store = chance.store(source)
                try:
                    self.assertEqual(run(program, store), run(behind, store))
                except TooLong:
                    pass
        self.assertGreater(dropped, 20)


if __name__ == "__main__":
    unittest.main()
