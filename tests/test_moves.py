"""Moves [29], and whether they are right [30]."""

import random
import unittest

import chance
import wide
from firstmet.alikes import alike, is_parting, parting
from firstmet.errors import BadMove, BadName, BadProgram, NotPlain, TooLong, TooMany
from firstmet.moves import is_right, moved, moves_of
from firstmet.programs import Program
from firstmet.running import run
from firstmet.tables import Shape
from pairs import HELD, deep, made, out
from support import SALES, Case, anything, by, each, look, of, put, rise, same, scan, seek, times

FILL = scan("q", "x", put("h", [of("q", "b")], [times(1)]))
KINDS = ["out", "turn", "seek", "scan", "swap", "fuse", "drop", "hold"]


def paths(body, ahead=()):
    """The paths of all statements of a body."""
    found = []
    for at, statement in enumerate(body):
        found.append((*ahead, at))
        if statement[0] != "put":
            found.extend(paths(statement[-1], (*ahead, at)))
    return found


class Moves(Case):
    def becomes(self, program, move, behind):
        """The move can be made, and this program comes of it."""
        told = self.leaves_alone(moved, program, move)
        self.assertIs(told.__class__, Program)
        self.assertEqual((told.shape, told.blocks), (behind.shape, behind.blocks))
        self.assertEqual(repr(told.body), repr(behind.body))
        self.assertEqual(told, behind)
        name = move[2] if move[0] == "hold" else "zz"
        self.assertIn(move, self.leaves_alone(moves_of, program, name))

    def is_changed(self, move, statement, another, *blocks, ahead=()):
        """The move changes a statement into another one, as a top statement and deep within.

        The path of the move is as if the statement were the first one of the program.
        """
        kind, (_, *path) = move
        self.becomes(made([*ahead, statement], *blocks), (kind, (len(ahead), *path)), made([*ahead, another], *blocks))
        before, behind = [scan("m", "y", same(of("m", "b"), 5, inner)) for inner in (statement, another)]
        self.becomes(made([*ahead, before, out(7)], *blocks), (kind, (len(ahead), 0, 0, *path)),
                     made([*ahead, behind, out(7)], *blocks))

    def is_refused(self, program, move, name="zz"):
        """The move cannot be made."""
        self.raises(BadMove, [move], moved, program, move)
        self.raises(BadMove, [move], is_right, program, move)
        self.assertNotIn(move, moves_of(program, name))

    def are_refused(self, kind, path, statement, *blocks, ahead=()):
        """The move cannot be made, at the top nor deep within; the path is as if the statement were the first one."""
        self.is_refused(made([*ahead, statement], *blocks), (kind, (len(ahead), *path[1:])))
        inner = scan("m", "y", same(of("m", "b"), 5, statement))
        self.is_refused(made([*ahead, inner], *blocks), (kind, (len(ahead), 0, 0, *path[1:])))


class Out(Moves):
    def test_of_each_loop(self):
        inner = out(of("r", "a"))
        for head in (("scan", "r", "t"), ("run", "r", "t", "b"), ("seek", "r", "t", "b", 4)):
            self.is_changed(("out", (0, 0)), (*head, (same(2, 3, inner),)), same(2, 3, (*head, (inner,))))
        inner = out(of("r", "g"))
        for head in (("each", "r", "h"), ("rise", "r", "h", "g"), ("look", "r", "h", (4,))):
            self.is_changed(("out", (0, 0)), (*head, (same(2, 2, inner),)), same(2, 2, (*head, (inner,))), HELD,
                            ahead=[FILL])

    def test_terms_of_what_stands_further_out(self):
        inner = same(of("r", "a"), of("q", "b"), out(of("s", "a")), put("h", [of("r", "b")], []))
        self.is_changed(("out", (0, 0, 0, 0)), scan("q", "x", scan("r", "t", scan("s", "u", inner))),
                        scan("q", "x", scan("r", "t", (*inner[:3], (scan("s", "u", *inner[3]),)))), HELD)

    def test_a_same_that_names_the_variable(self):
        for left, right in ((of("r", "a"), 1), (1, of("r", "a")), (of("r", "a"), of("r", "b")),
                            (of("r", "a"), of("s", "c")), (of("s", "c"), of("r", "a"))):
            self.are_refused("out", (0, 0, 0), scan("s", "u", scan("r", "t", same(left, right, out(1)))))
        self.is_changed(("out", (0, 0, 0)), scan("s", "u", scan("r", "t", same(of("s", "a"), 1, out(1)))),
                        scan("s", "u", same(of("s", "a"), 1, scan("r", "t", out(1)))))

    def test_a_same_in_a_same(self):
        self.are_refused("out", (0, 0), same(1, 2, same(3, 4, out(1))))
        self.are_refused("out", (0, 0, 0), scan("r", "t", same(1, 2, same(3, 4, out(1)))))
        self.is_changed(("out", (0, 0)), scan("r", "t", same(1, 2, same(3, 4, out(1)))),
                        same(1, 2, scan("r", "t", same(3, 4, out(1)))))

    def test_one_of_two(self):
        body = (same(1, 2, out(1)), put("h", [1], []))
        self.are_refused("out", (0, 0), scan("r", "t", *body), HELD)
        self.are_refused("out", (0, 1), scan("r", "t", *reversed(body)), HELD)

    def test_what_is_no_same(self):
        self.are_refused("out", (0, 0), scan("r", "t", scan("s", "u", out(1))))
        self.are_refused("out", (0, 0), scan("r", "t", out(1)))
        self.are_refused("out", (0,), scan("r", "t", same(1, 2, out(1))))
        self.is_refused(made([same(1, 2, out(1))]), ("out", (0,)))

    def test_a_top_statement(self):
        self.is_refused(made([same(1, 1, out(1))]), ("out", (0,)))


class Turn(Moves):
    def heads(self):
        return [(("scan", "r", "t"), "a"), (("run", "r", "u", "c"), "a"), (("seek", "r", "w", "e", 3), "d"),
                (("each", "r", "h"), "g"), (("rise", "r", "h", "g"), "g")]

    def test_of_each_with_each(self):
        for outer, field in self.heads():
            for head, other in self.heads():
                inner = tuple(["s" if part == "r" else part for part in head])
                body = (out(of("r", field)), put("k", [of("s", other)], []))
                self.is_changed(("turn", (0,)), (*outer, ((*inner, body),)), (*inner, ((*outer, body),)), HELD,
                                ("k", ("j",), ("i",)), ahead=[FILL])

    def test_a_seek_that_names_the_variable_ahead(self):
        sought = seek("s", "u", "a", of("r", "a"), out(1))
        self.are_refused("turn", (0,), scan("r", "t", sought))
        self.are_refused("turn", (0,), by("r", "t", "b", sought))
        self.are_refused("turn", (0,), seek("r", "t", "b", 1, sought))
        self.is_changed(("turn", (0, 0)), scan("r", "t", scan("q", "x", sought)),
                        scan("r", "t", seek("s", "u", "a", of("r", "a"), scan("q", "x", out(1)))))
        self.is_changed(("turn", (0, 0)), scan("q", "x", seek("r", "t", "a", of("q", "b"), scan("s", "u", out(1)))),
                        scan("q", "x", scan("s", "u", seek("r", "t", "a", of("q", "b"), out(1)))))

    def test_what_stands_further_in_may_name_both(self):
        inner = same(of("r", "a"), of("s", "a"), out(of("r", "b"), adds=[times(2, of("s", "c"), of("r", "b"))]))
        self.is_changed(("turn", (0,)), scan("r", "t", scan("s", "u", inner)), scan("s", "u", scan("r", "t", inner)))

    def test_a_field_that_is_called_like_the_variable(self):
        shape = Shape([("t", ["t"]), ("u", ["t"])])
        inner = out(of("t", "t"))
        self.becomes(made([scan("t", "t", seek("u", "u", "t", 1, inner))], shape=shape), ("turn", (0,)),
                     made([seek("u", "u", "t", 1, scan("t", "t", inner))], shape=shape))

    def test_a_look_and_a_same(self):
        for outer in (("look", "r", "h", (1,)), ("same", 1, 1)):
            self.are_refused("turn", (0,), (*outer, (scan("s", "u", out(1)),)), HELD, ahead=[FILL])
            self.are_refused("turn", (0, 0), scan("s", "u", (*outer, (scan("q", "x", out(1)),))), HELD, ahead=[FILL])
            self.are_refused("turn", (0,), scan("s", "u", (*outer, (out(1),))), HELD, ahead=[FILL])

    def test_bodies(self):
        self.are_refused("turn", (0,), scan("r", "t", out(1)))
        two = scan("r", "t", scan("s", "u", out(1)), put("h", [1], []))
        self.are_refused("turn", (0,), two, HELD)
        self.are_refused("turn", (0,), scan("r", "t", scan("s", "u", out(1)), scan("s", "u", put("h", [1], []))), HELD)
        self.is_refused(made([out(1)]), ("turn", (0,)))


class Seek(Moves):
    def test_each_side(self):
        inner = out(of("r", "b"))
        self.is_changed(("seek", (0,)), scan("r", "t", same(of("r", "a"), 5, inner)), seek("r", "t", "a", 5, inner))
        self.is_changed(("seek", (0,)), scan("r", "t", same(5, of("r", "b"), inner)), seek("r", "t", "b", 5, inner))
        for left, right in ((of("r", "a"), of("q", "b")), (of("q", "b"), of("r", "a"))):
            self.is_changed(("seek", (0, 0)), scan("q", "x", scan("r", "t", same(left, right, inner))),
                            scan("q", "x", seek("r", "t", "a", of("q", "b"), inner)))

    def test_several_statements_in_the_same(self):
        inner = (out(of("r", "b")), put("h", [of("r", "a")], []))
        self.is_changed(("seek", (0,)), scan("r", "t", same(of("r", "a"), 5, *inner)), seek("r", "t", "a", 5, *inner),
                        HELD)

    def test_both_sides_or_none(self):
        for left, right in ((of("r", "a"), of("r", "b")), (of("r", "a"), of("r", "a")), (1, 1), (1, of("q", "b")),
                            (of("q", "b"), of("q", "b"))):
            self.are_refused("seek", (0, 0), scan("q", "x", scan("r", "t", same(left, right, out(1)))))

    def test_other_statements(self):
        inner = same(of("r", "a"), 1, out(1))
        self.are_refused("seek", (0,), by("r", "t", "a", inner))
        self.are_refused("seek", (0,), seek("r", "t", "b", 1, inner))
        self.are_refused("seek", (0,), scan("r", "t", inner, put("h", [1], [])), HELD)
        self.are_refused("seek", (0,), scan("r", "t", scan("s", "u", inner)))
        self.are_refused("seek", (0,), scan("r", "t", out(1)))
        self.are_refused("seek", (0, 0), scan("r", "t", inner))
        entry = each("r", "h", same(of("r", "g"), 1, out(1)))
        self.are_refused("seek", (0,), entry, HELD, ahead=[FILL])


class Scan(Moves):
    def test_terms(self):
        inner = (out(of("r", "b")), put("h", [of("r", "a")], []))
        self.is_changed(("scan", (0,)), seek("r", "t", "a", 5, *inner), scan("r", "t", same(of("r", "a"), 5, *inner)),
                        HELD)
        self.is_changed(("scan", (0, 0)), scan("q", "x", seek("r", "t", "b", of("q", "b"), out(1))),
                        scan("q", "x", scan("r", "t", same(of("r", "b"), of("q", "b"), out(1)))))

    def test_other_statements(self):
        self.are_refused("scan", (0,), scan("r", "t", out(1)))
        self.are_refused("scan", (0,), by("r", "t", "a", out(1)))
        self.are_refused("scan", (0, 0), seek("r", "t", "a", 1, out(1)))
        self.are_refused("scan", (0,), same(1, 1, out(1)))
        self.are_refused("scan", (0,), look("r", "h", [1], out(1)), HELD, ahead=[FILL])

    def test_too_deep(self):
        self.becomes(made([deep(5, seek("r", "t", "a", 1, out(1)))]), ("scan", (0,) * 6),
                     made([deep(5, scan("r", "t", same(of("r", "a"), 1, out(1))))]))
        self.is_refused(made([deep(6, seek("r", "t", "a", 1, out(1)))]), ("scan", (0,) * 7))

    def test_too_many_statements(self):
        filled = [deep(5, out(1))] * 6
        self.becomes(made([*filled, same(1, 1, seek("r", "t", "a", 1, out(1)))]), ("scan", (6, 0)),
                     made([*filled, same(1, 1, scan("r", "t", same(of("r", "a"), 1, out(1))))]))
        self.is_refused(made([*filled, same(1, 1, same(1, 1, seek("r", "t", "a", 1, out(1))))]), ("scan", (6, 0, 0)))


class Swap(Moves):
    def test_top_statements(self):
        one, two, three = scan("r", "t", out(1)), out(2), same(1, 1, out(3))
        program = made([one, two, three])
        self.becomes(program, ("swap", 0), made([two, one, three]))
        self.becomes(program, ("swap", 1), made([one, three, two]))
        self.is_refused(program, ("swap", 2))
        self.is_refused(made([one]), ("swap", 0))

    def test_a_block_that_is_read_ahead_of_its_puts(self):
        body = [FILL, out(1), each("r", "h", out(of("r", "g")))]
        program = made(body, HELD)
        self.becomes(program, ("swap", 0), made([body[1], body[0], body[2]], HELD))
        self.is_refused(made([body[0], body[2]], HELD), ("swap", 0))
        self.becomes(program, ("swap", 1), made([body[0], body[2], body[1]], HELD))


class Fuse(Moves):
    def test_two_scans(self):
        one = scan("r", "t", out(of("r", "b")), same(1, 1, put("h", [of("r", "a")], [])))
        two = scan("s", "t", put("k", [of("s", "a")], []))
        blocks = (HELD, ("k", ("j",), ("i",)))
        for ahead in ([], [out(3)]):
            for behind in ([], [out(4), out(5)]):
                self.becomes(made([*ahead, one, two, *behind], *blocks), ("fuse", len(ahead)), made([
                    *ahead, scan("r", "t", *one[3], put("k", [of("r", "a")], [])), *behind], *blocks))

    def test_two_runs(self):
        one = by("r", "t", "b", out(of("r", "b")))
        two = by("r", "t", "b", put("h", [of("r", "a")], []))
        self.becomes(made([one, two], HELD), ("fuse", 0), made([by("r", "t", "b", one[4][0], two[4][0])], HELD))
        self.is_refused(made([one, by("r", "t", "a", two[4][0])], HELD), ("fuse", 0))

    def test_unlike_ones(self):
        one, inner = scan("r", "t", out(of("r", "b"))), put("h", [1], [])
        for other in (by("r", "t", "b", inner), scan("r", "u", inner), seek("r", "t", "a", 1, inner), inner,
                      same(1, 1, inner)):
            self.is_refused(made([one, other], HELD), ("fuse", 0))
            self.is_refused(made([other, one], HELD), ("fuse", 0))
        for fellows in ([seek("r", "t", "a", 1, out(1)), seek("r", "t", "a", 1, inner)], [out(1), inner],
                           [same(1, 1, out(1)), same(1, 1, inner)]):
            self.is_refused(made(fellows, HELD), ("fuse", 0))
        two = [each(v, "h", inner) for v, inner in (("r", out(1)), ("s", put("k", [1], [])))]
        self.is_refused(made([FILL, *two], HELD, ("k", ("j",), ("i",))), ("fuse", 1))
        self.is_refused(made([one, out(1), scan("r", "t", inner)], HELD), ("fuse", 0))
        self.is_refused(made([one]), ("fuse", 0))
        self.is_refused(made([one, scan("r", "t", inner)], HELD), ("fuse", 1))

    def test_the_variable_everywhere(self):
        def second(v):
            held = look("e", "k", [of(v, "a")], put("h", [of("f", "c")], [
                times(2, of(v, "b"), of("e", "i"), of(v, "b")), times(1, of("e", "i"), of("f", "a"))]))
            return scan(v, "t", same(of(v, "b"), of(v, "a"), seek("f", "u", "a", of(v, "a"), same(
                3, of(v, "b"), held))))
        fill = scan("s", "x", put("k", [of("s", "b")], [times(1)]))
        blocks = (HELD, ("k", ("j",), ("i",)))
        one = scan("r", "t", out(of("r", "b")))
        self.becomes(made([fill, one, second("s")], *blocks), ("fuse", 1),
                     made([fill, scan("r", "t", *one[3], *second("r")[3])], *blocks))

    def test_a_variable_that_is_there_already(self):
        one, inner = scan("r", "t", out(of("r", "b"))), put("h", [1], [])
        self.is_refused(made([one, scan("s", "t", scan("r", "u", inner))], HELD), ("fuse", 0))
        self.is_refused(made([one, scan("s", "t", same(1, 1, seek("r", "u", "a", of("s", "a"), inner)))], HELD),
                        ("fuse", 0))
        self.becomes(made([scan("r", "t", scan("s", "u", out(1))), scan("s", "t", inner)], HELD), ("fuse", 0),
                     made([scan("r", "t", scan("s", "u", out(1)), inner)], HELD))

    def test_blocks(self):
        one = scan("r", "t", out(1))
        self.is_refused(made([one, scan("r", "t", out(2))]), ("fuse", 0))
        fill = scan("r", "t", put("h", [of("r", "a")], []))
        self.is_refused(made([fill, scan("r", "t", each("e", "h", out(1)))], HELD), ("fuse", 0))
        self.becomes(made([fill, one, scan("r", "t", each("e", "h", put("k", [], [])))], HELD, ("k", (), ("i",))),
                     ("fuse", 0), made([scan("r", "t", fill[3][0], out(1)), scan("r", "t", each("e", "h", put(
                         "k", [], [])))], HELD, ("k", (), ("i",))))

    def test_long_bodies(self):
        blocks = [(name, (), ("i",)) for name in ("ka", "kb", "kc", "kd", "ke")]
        puts = [put(name, [], []) for name, _, _ in blocks]
        for many in range(1, 6):
            program = made([scan("r", "t", *puts[:many]), scan("r", "t", *puts[many:], out(1))], *blocks)
            self.becomes(program, ("fuse", 0), made([scan("r", "t", *puts, out(1))], *blocks))
        self.is_refused(made([scan("r", "t", *puts), scan("r", "t", *puts)], *blocks), ("fuse", 0))


class Drop(Moves):
    def test_top_statements(self):
        one, two, three = scan("r", "t", out(1)), out(2), same(1, 1, out(3))
        program = made([one, two, three])
        self.becomes(program, ("drop", 0), made([two, three]))
        self.becomes(program, ("drop", 1), made([one, three]))
        self.becomes(program, ("drop", 2), made([one, two]))
        self.is_refused(program, ("drop", 3))
        self.becomes(made([FILL, one], HELD), ("drop", 1), made([FILL], HELD))

    def test_the_only_one(self):
        self.is_refused(made([out(1)]), ("drop", 0))

    def test_what_is_read(self):
        program = made([FILL, each("r", "h", out(of("r", "g")))], HELD)
        self.is_refused(program, ("drop", 0))
        self.becomes(program, ("drop", 1), made([FILL], HELD))


class Hold(Moves):
    def hold(self, body, told, rows, *blocks, term=5):
        """A seek of u by the field a is held with these rows of factors, and its body becomes what is told."""
        filling = scan("r", "u", put("new", [of("r", "a")], *[[times(1, *row)] for row in rows]))
        sought = seek("r", "u", "a", term, *body)
        looked = look("r", "new", [term], *told)
        more = ("new", ("a",), ("s", "t", "u")[:len(rows)])
        for ahead in ([], [out(3)]):
            self.becomes(made([*ahead, scan("q", "x", sought), out(4)], *blocks), ("hold", (len(ahead), 0), "new"),
                         made([*ahead, filling, scan("q", "x", looked), out(4)], *blocks, more))
            before, behind = [scan("q", "x", scan("m", "t", same(1, of("q", "b"), inner)))
                              for inner in (sought, looked)]
            self.becomes(made([*ahead, before, out(4)], *blocks), ("hold", (len(ahead), 0, 0, 0), "new"),
                         made([*ahead, filling, behind, out(4)], *blocks, more))

    def test_one_row(self):
        c = of("r", "c")
        self.hold([out(of("q", "b"), adds=[times(2, c)])], [out(of("q", "b"), adds=[times(2, of("r", "s"))])], [[c]])
        self.hold([out(1, adds=[times(2, of("q", "b"), c)])],
                  [out(1, adds=[times(2, of("q", "b"), of("r", "s"))])], [[c]], term=of("q", "b"))
        self.hold([out(1, adds=[times(2, c, of("q", "b"))])],
                  [out(1, adds=[times(2, of("q", "b"), of("r", "s"))])], [[c]])
        self.hold([out(1, adds=[times(2, c, of("q", "b"), of("r", "a"))])],
                  [out(1, adds=[times(2, of("q", "b"), of("r", "s"))])], [[of("r", "a"), c]])

    def test_no_factors(self):
        self.hold([out(1, adds=[times(2)])], [out(1, adds=[times(2, of("r", "s"))])], [[]])
        self.hold([out(1, adds=[times(2, of("q", "b"), of("q", "b"))])],
                  [out(1, adds=[times(2, of("q", "b"), of("q", "b"), of("r", "s"))])], [[]])

    def test_factors_in_unlike_orders_are_one_row(self):
        a, c = of("r", "a"), of("r", "c")
        self.hold([out(1, adds=[times(2, c, a, c), times(3, c, c, a), times(4, a, c, c)])],
                  [out(1, adds=[times(2, of("r", "s")), times(3, of("r", "s")), times(4, of("r", "s"))])], [[a, c, c]])

    def test_two_and_three_rows_ascending(self):
        a, c = of("r", "a"), of("r", "c")
        s, t, u = of("r", "s"), of("r", "t"), of("r", "u")
        self.hold([out(1, adds=[times(2, c), times(3, a, c)])], [out(1, adds=[times(2, t), times(3, s)])],
                  [[a, c], [c]])
        self.hold([out(1, adds=[times(2, c), times(3, a), times(1), times(7, of("q", "b"), c)])],
                  [out(1, adds=[times(2, u), times(3, t), times(1, s), times(7, of("q", "b"), u)])], [[], [a], [c]])

    def test_rows_of_several_puts(self):
        a, c = of("r", "a"), of("r", "c")
        s, t = of("r", "s"), of("r", "t")
        inner = [out(1, adds=[times(2, c)]), scan("k", "w", put("h", [of("k", "d")], [times(3, of("k", "e"), a)]))]
        told = [out(1, adds=[times(2, t)]), scan("k", "w", put("h", [of("k", "d")], [times(3, of("k", "e"), s)]))]
        self.hold(inner, told, [[a], [c]], HELD)

    def test_more_than_three_rows(self):
        a, c = of("r", "a"), of("r", "c")
        adds = [times(1), times(1, a), times(1, c), times(1, a, a)]
        self.is_refused(made([scan("q", "x", seek("r", "u", "a", 1, out(1, adds=adds)))]), ("hold", (0, 0), "new"),
                        "new")
        self.hold([out(1, adds=adds[:3])], [out(1, adds=[times(1, of("r", sum)) for sum in "stu"])], [[], [a], [c]])

    def test_no_products(self):
        self.is_refused(made([scan("q", "x", seek("r", "u", "a", 1, out(1)))]), ("hold", (0, 0), "new"), "new")

    def test_three_other_factors(self):
        three = [of("q", "b")] * 3
        self.is_refused(made([scan("q", "x", seek("r", "u", "a", 1, out(1, adds=[times(1, *three)])))]),
                        ("hold", (0, 0), "new"), "new")

    def test_a_top_statement(self):
        program = made([seek("r", "u", "a", 1, out(1, adds=[times(1)]))])
        self.is_refused(program, ("hold", (0,), "new"), "new")
        self.becomes(made([same(1, 1, program.body[0])]), ("hold", (0, 0), "new"), made([
            scan("r", "u", put("new", [of("r", "a")], [times(1)])),
            same(1, 1, look("r", "new", [1], out(1, adds=[times(1, of("r", "s"))])))], ("new", ("a",), ("s",))))

    def test_the_variable_stands_in_factors_alone(self):
        # The field that is sought becomes a key of the entry, so that what comes would be a right program.
        for field in ("c", "a"):
            self.refuses_terms(of("r", field))

    def refuses_terms(self, c):
        adds = [times(1, of("r", "c"))]
        for inner in (out(c, adds=adds), same(c, 1, out(1, adds=adds)), same(1, c, out(1, adds=adds)),
                      scan("k", "w", same(of("k", "d"), c, out(1, adds=adds))),
                      seek("k", "w", "d", c, out(1, adds=adds)), scan("k", "w", out(c, adds=adds)),
                      seek("k", "w", "d", 1, seek("j", "t", "a", c, out(1, adds=adds))), same(2, c, out(1, adds=adds)),
                      seek("k", "w", "d", of("q", "b"), scan("j", "t", out(c, adds=adds)))):
            self.is_refused(made([scan("q", "x", seek("r", "u", "a", 1, inner))]), ("hold", (0, 0), "new"), "new")
        entry = look("e", "h", [c], out(1, adds=[times(1, of("r", "c"), of("e", "s"))]))
        self.is_refused(made([FILL, scan("q", "x", seek("r", "u", "a", 1, entry))], HELD), ("hold", (1, 0), "new"),
                        "new")

    def test_other_statements(self):
        adds = [times(1)]
        for inner in (scan("r", "u", out(1, adds=adds)), by("r", "u", "a", out(1, adds=adds)),
                      same(1, 1, out(1, adds=adds)), out(1, adds=adds)):
            self.is_refused(made([scan("q", "x", inner)]), ("hold", (0, 0), "new"), "new")
        entry = look("r", "h", [1], out(1, adds=[times(1, of("r", "s"))]))
        self.is_refused(made([FILL, scan("q", "x", entry)], HELD), ("hold", (1, 0), "new"), "new")

    def test_the_name(self):
        body = [scan("q", "x", seek("r", "u", "a", 1, out(1, adds=[times(1)])))]
        for name in ("h", "out", "t", "u", "y"):
            self.is_refused(made([FILL, *body], HELD), ("hold", (1, 0), name), name)
        # A variable or a field may have this name.
        for name in ("r", "q", "a", "g", "abcdefgh"):
            moved(made([FILL, *body], HELD), ("hold", (1, 0), name))
        for name in ("", "abcdefghi", "A", "a1", None, 1, ("new",), ["new"]):
            self.raises(BadMove, [("hold", (0, 0), name)], moved, made(body), ("hold", (0, 0), name))

    def test_a_field_that_is_called_like_a_sum(self):
        shape = Shape([("a", ["s", "t", "v"]), ("x", ["b"])])

        def program(field, *adds):
            return made([scan("q", "x", seek("r", "a", field, 1, out(1, adds=list(adds))))], shape=shape)
        one, two = times(1, of("r", "s")), times(1, of("r", "t"))
        self.is_refused(program("s", one), ("hold", (0, 0), "new"), "new")
        self.is_refused(program("t", one, two), ("hold", (0, 0), "new"), "new")
        self.becomes(program("t", two), ("hold", (0, 0), "new"), made([
            scan("r", "a", put("new", [of("r", "t")], [two])),
            scan("q", "x", look("r", "new", [1], out(1, adds=[times(1, of("r", "s"))])))], ("new", ("t",), ("s",)),
            shape=shape))

    def test_too_many_blocks_and_statements(self):
        seventh = [(name, (), ("i",)) for name in ("ka", "kb", "kc", "kd", "ke")]
        body = [scan("q", "x", seek("r", "u", "a", 1, out(1, adds=[times(1)])))]
        moved(made(body, *seventh[:4]), ("hold", (0, 0), "new"))
        self.is_refused(made(body, *seventh), ("hold", (0, 0), "new"), "new")
        moved(made([*[out(1)] * 10, *body]), ("hold", (10, 0), "new"))
        self.is_refused(made([*[out(1)] * 11, *body]), ("hold", (11, 0), "new"), "new")
        moved(made([*[deep(4, out(1))] * 7, *body]), ("hold", (7, 0), "new"))
        self.is_refused(made([*[deep(4, out(1))] * 7, same(1, 1, *body)]), ("hold", (7, 0, 0), "new"), "new")

    def test_other_entries_around(self):
        adds = [times(2, of("r", "c"), of("e", "s"), of("q", "b"))]
        blocks = (HELD, ("k", ("j",), ("i",)))
        fill = scan("q", "x", put("k", [of("q", "b")], [times(1)]))
        new = ("new", ("a",), ("s",))
        filling = scan("r", "u", put("new", [of("r", "a")], [times(1, of("r", "c"))]))
        behind = [times(2, of("e", "s"), of("q", "b"), of("r", "s"))]
        self.becomes(
            made([FILL, each("e", "h", scan("q", "x", seek("r", "u", "a", of("e", "g"), out(1, adds=adds))))], HELD),
            ("hold", (1, 0, 0), "new"),
            made([FILL, filling, each("e", "h", scan("q", "x", look("r", "new", [of("e", "g")], out(1, adds=behind))))],
                 HELD, new))
        adds = [times(2, of("f", "i"), of("r", "c"), of("e", "s"))]
        behind = [times(2, of("f", "i"), of("e", "s"), of("r", "s"))]
        self.becomes(
            made([FILL, fill, each("e", "h", seek("r", "u", "a", 1, rise("f", "k", "j", out(1, adds=adds))))], *blocks),
            ("hold", (2, 0), "new"),
            made([FILL, fill, filling, each("e", "h", look("r", "new", [1], rise("f", "k", "j", out(1, adds=behind))))],
                 *blocks, new))


class WrongMoves(Moves):
    def setUp(self):
        inner = seek("s", "u", "a", of("r", "a"), out(1, adds=[times(1, of("s", "c"))]))
        self.made = made([scan("r", "t", inner), scan("r", "t", put("h", [1], []))], HELD)

    def test_no_program(self):
        for thing in anything():
            if not isinstance(thing, Program):
                for move in (("drop", 0), None, ("drop", 7)):
                    self.raises(BadProgram, [thing], moved, thing, move)
                    self.raises(BadProgram, [thing], is_right, thing, move)
                for name in ("a", None, "abcdefghi"):
                    self.raises(BadProgram, [thing], moves_of, thing, name)

    def test_no_move(self):
        for move in (("scan", (0, 0)), ("swap", 0), ("fuse", 0), ("drop", 1), ("hold", (0, 0), "new")):
            self.assertIs(moved(self.made, move).__class__, Program)
        right = ["('swap', 0)", "('fuse', 0)", "('drop', 0)", "('drop', 1)", "('scan', (0, 0))",
                 "('hold', (0, 0), 'new')", "('hold', (0, 0), 'a')", "('hold', (0, 0), 'sale')"]
        for thing in anything():
            moves = [thing, (thing,), (thing, (0, 0)), (thing, 0), (thing, (0, 0), "new"), ("hold", (0, 0), thing)]
            moves.extend([(kind, thing) for kind in KINDS])
            moves.extend([(kind, (0, thing)) for kind in KINDS[:4]] + [("hold", thing, "new"),
                                                                     ("hold", (0, thing), "new")])
            for move in moves:
                if repr(move) not in right:
                    self.raises(BadMove, [move], moved, self.made, move)

    def test_paths(self):
        for path in ((), [0, 0], (False, 0), (0, False), (0, -2), (-2, 0), (2, 0), (0, 1), (0, 0, 0), (0, 0, 0, 0),
                     (0,), (1, 0), (1, 0, 0), ((0, 0),), ("0", "0"), "00", 0, None, (0, 0.0), {0: 0}):
            for move in (("scan", path), ("hold", path, "new")):
                self.raises(BadMove, [move], moved, self.made, move)
        turned = made([scan("q", "x", scan("r", "t", out(1)))])
        for path in ((), [0], (True,), (False,), (-1,), (1,), (0, 0, 0), (0, 0, 0, 0), 0):
            self.raises(BadMove, [("turn", path)], moved, turned, ("turn", path))

    def test_indexes(self):
        program = made([scan("r", "t", out(1)), scan("r", "t", put("h", [1], [])), out(2)], HELD)
        for at in (True, False, -1, -3, 3, 10 ** 9, (0,), "0", None, 0.0):
            for kind in ("swap", "fuse", "drop"):
                self.raises(BadMove, [(kind, at)], moved, program, (kind, at))

    def test_lists_and_more_parts(self):
        for move in (["scan", (0, 0)], ("scan", (0, 0), "new"), ("scan",), ("scan", (0, 0), None), ["drop", 0],
                     ("drop", 0, 1), ("hold", (0, 0)), ["hold", (0, 0), "new"], ("hold", (0, 0), "new", 1),
                     ("hold", "new", (0, 0)), ("look", (0, 0)), ("put", (0, 0)), ("Scan", (0, 0)), ("", (0, 0)), ()):
            self.raises(BadMove, [move], moved, self.made, move)

    def test_no_name(self):
        for thing in [*anything(), "abcdefghi", "a b", "A"]:
            if thing not in ("a", "sale"):
                self.raises(BadName, [thing], moves_of, self.made, thing)


class AllMoves(Moves):
    def test_the_order(self):
        inner = seek("s", "u", "a", of("r", "a"), out(1, adds=[times(1, of("s", "c"))]))
        body = [scan("r", "t", inner), scan("r", "t", put("h", [1], [])), by("r", "t", "a", same(1, 1, scan(
            "s", "u", same(of("s", "a"), 3, seek("m", "y", "b", 1, out(1, adds=[times(1)])))))),
            scan("r", "w", scan("s", "w", out(1)))]
        self.assertEqual(self.leaves_alone(moves_of, made(body, HELD), "new"), [
            ("out", (2, 0)), ("turn", (3,)), ("seek", (2, 0, 0)), ("scan", (0, 0)), ("scan", (2, 0, 0, 0, 0)),
            ("swap", 0), ("swap", 1), ("swap", 2), ("fuse", 0), ("drop", 0), ("drop", 1), ("drop", 2), ("drop", 3),
            ("hold", (0, 0), "new"), ("hold", (2, 0, 0, 0, 0), "new")])
        self.assertEqual(moves_of(made(body, HELD), "h")[-1], ("drop", 3))

    def test_none(self):
        self.assertEqual(moves_of(made([out(1)]), "new"), [])
        self.assertEqual(moves_of(made([scan("r", "t", out(1))]), "new"), [])

    def test_each_is_new(self):
        program = made([out(1), out(2)])
        moves_of(program, "new").clear()
        self.assertEqual(moves_of(program, "new"), [("swap", 0), ("drop", 0), ("drop", 1)])

    def test_ascending_paths(self):
        inner = same(1, 1, put("h", [1], []))
        program = made([scan("q", "x", seek("r", "t", "a", 1, out(1)), seek("r", "t", "a", 2, scan("s", "u", inner)))],
                       HELD)
        self.assertEqual(moves_of(program, "new")[:4], [
            ("out", (0, 1, 0, 0)), ("turn", (0, 1)), ("scan", (0, 0)), ("scan", (0, 1))])

    def test_all_others_are_refused(self):
        source = random.Random(5)
        for _ in range(120):
            program = wide.program(source, tame=source.random() < 0.5)
            moves = moves_of(program, "new")
            self.assertEqual(moves, sorted(moves, key=lambda move: (KINDS.index(move[0]), move[1])))
            self.assertEqual(len(set(moves)), len(moves))
            for kind in KINDS:
                if kind in ("swap", "fuse", "drop"):
                    places = [(kind, at) for at in range(-1, len(program.body) + 1)]
                elif kind == "hold":
                    places = [(kind, path, "new") for path in [(), *paths(program.body)]]
                else:
                    places = [(kind, path) for path in [(), *paths(program.body)]]
                for move in places:
                    if move not in moves:
                        self.raises(BadMove, [move], moved, program, move)
                    else:
                        self.assertIs(moved(program, move).__class__, Program)


class Right(Moves):
    def is_told(self, program, move, right):
        self.assertIs(self.leaves_alone(is_right, program, move), right)
        behind = moved(program, move)
        self.assertIs(alike(program, behind), right)
        if not right:
            self.assertIs(is_parting(program, behind, parting(program, behind)), True)

    def test_each_kind(self):
        c, q = of("r", "c"), of("q", "b")
        join = scan("q", "x", seek("r", "u", "a", q, out(q, adds=[times(1, c)])))
        program = made([join])
        self.is_told(program, ("scan", (0, 0)), True)
        self.is_told(moved(program, ("scan", (0, 0))), ("seek", (0, 0)), True)
        self.is_told(program, ("hold", (0, 0), "new"), True)
        inner = same(of("q", "b"), 1, out(of("q", "a"), adds=[times(1, c)]))
        self.is_told(made([scan("q", "t", seek("r", "u", "a", of("q", "a"), inner))]), ("out", (0, 0, 0)), True)
        fusible = made([scan("q", "x", out(q)), scan("r", "x", put("h", [1], []))], HELD)
        for move, right in ((("fuse", 0), True), (("swap", 0), True), (("drop", 0), False), (("drop", 1), True)):
            self.is_told(fusible, move, right)

    def test_turn(self):
        self.is_told(made([scan("q", "x", scan("r", "u", out(adds=[times(1, of("r", "c"))])))], many=0), ("turn", (0,)),
                     True)
        inner = same(of("q", "b"), of("r", "a"), out(of("r", "a")))
        self.is_told(made([by("q", "x", "b", by("r", "u", "a", inner))]), ("turn", (0,)), True)
        self.is_told(made([by("q", "x", "b", by("r", "u", "c", inner))]), ("turn", (0,)), False)
        both = made([scan("q", "x", scan("r", "u", same(of("q", "b"), of("r", "a"), out(of("q", "b")))))])
        self.is_told(both, ("turn", (0,)), False)
        inner = same(of("q", "a"), of("r", "a"), out(of("q", "b"), of("r", "c")))
        self.is_told(made([scan("q", "t", by("r", "u", "c", inner))], many=2), ("turn", (0,)), False)

    def test_swap_and_drop(self):
        x, y = [scan("r", name, out(of("r", "b"))) for name in "xy"]
        join = scan("r", "x", seek("s", "y", "b", of("r", "b"), out(of("r", "b"))))
        self.is_told(made([x, y]), ("swap", 0), False)
        self.is_told(made([x, y]), ("drop", 0), False)
        self.is_told(made([x, y]), ("drop", 1), False)
        self.is_told(made([x, join]), ("drop", 1), True)
        self.is_told(made([x, join]), ("swap", 0), False)
        self.is_told(made([x, x]), ("swap", 0), True)
        self.is_told(made([x, x]), ("drop", 0), True)
        self.is_told(made([x, scan("r", "x", out(of("r", "b"), adds=[times(1)]))]), ("drop", 1), False)

    def test_the_example(self):
        def program(body, *blocks):
            return Program(SALES, (*blocks, ("paid", ("item",), ("total",))), body)
        total = times(1, of("s", "many"), of("p", "cost"))
        paid = put("paid", [of("s", "item")], [total])
        plain = program([scan("s", "sale", scan("p", "price", same(of("s", "item"), of("p", "item"), paid)))])
        sought = program([scan("s", "sale", seek("p", "price", "item", of("s", "item"), paid))])
        self.becomes(plain, ("seek", (0, 0)), sought)
        self.is_told(plain, ("seek", (0, 0)), True)
        held = put("paid", [of("s", "item")], [times(1, of("s", "many"), of("p", "s"))])
        self.becomes(sought, ("hold", (0, 0), "held"), program([
            scan("p", "price", put("held", [of("p", "item")], [times(1, of("p", "cost"))])),
            scan("s", "sale", look("p", "held", [of("s", "item")], held))], ("held", ("item",), ("s",))))
        self.is_told(sought, ("hold", (0, 0), "held"), True)
        self.is_told(plain, ("turn", (0,)), False)

    def test_errors(self):
        six = made([deep(6, out(1)), deep(7, out(1)), out(2)])
        twice = made([scan("r", "x", scan("s", "x", out(of("r", "b")))), out(1)])
        self.raises(TooMany, [], is_right, six, ("swap", 0))
        self.raises(TooMany, [], is_right, six, ("drop", 0))
        self.raises(NotPlain, [0], is_right, twice, ("drop", 1))
        self.raises(NotPlain, [0], is_right, twice, ("swap", 0))
        plain = scan("r", "x", out(of("r", "b")))
        self.raises(NotPlain, [1], is_right, made([plain, twice.body[0]]), ("drop", 1))
        sums = made([scan("r", "x", out(of("r", "b"))), deep(7, put("h", [1], [times(1)]))], HELD)
        self.assertIs(is_right(sums, ("drop", 1)), True)
        many = scan("r", "x", out(of("r", "b"), adds=[times(1), times(1, of("r", "b"))]))
        self.assertIs(is_right(made([many, many]), ("swap", 0)), True)
        for program in (six, twice):
            self.raises(BadMove, [("drop", 9)], is_right, program, ("drop", 9))


class Drawn(Moves):
    def test_what_comes_gives_the_same(self):
        source = random.Random(11)
        made_ones = {kind: 0 for kind in KINDS}
        for _ in range(400):
            shape = source.choice((chance.SHAPE, chance.SHAPE, Shape([("t", ["a", "b"])])))
            program = wide.program(source, tame=source.random() < 0.7, givens=source.random() < 0.4, shape=shape)
            stores = [chance.store(source, shape=shape) for _ in range(3)]
            for move in moves_of(program, "new"):
                made_ones[move[0]] += 1
                behind = moved(program, move)
                told = [(self.run(program, store), self.run(behind, store)) for store in stores]
                for ahead, later in told:
                    if move[0] in ("out", "seek", "scan", "fuse", "hold"):
                        self.assertEqual(ahead, later, (program.body, move))
                    elif move[0] != "drop":
                        self.assertEqual(dict(ahead or []), dict(later or []), (program.body, move))
                self.hold(program, move, behind, told)
        self.assertTrue(all([many > 5 for many in made_ones.values()]), made_ones)

    def run(self, *given):
        if len(given) < 2:
            return super().run(*given)
        try:
            return run(*given)
        except TooLong:
            return None

    def hold(self, program, move, behind, told):
        """What is told of the move is so on the stores."""
        try:
            right = is_right(program, move)
        except (NotPlain, TooMany):
            return
        if move[0] in ("out", "seek", "scan", "fuse", "hold"):
            self.assertIs(right, True, (program.body, move))
        if right:
            self.assertTrue(all([ahead == later for ahead, later in told]), (program.body, move))
        else:
            self.assertTrue(is_parting(program, behind, parting(program, behind)), (program.body, move))


if __name__ == "__main__":
    unittest.main()
