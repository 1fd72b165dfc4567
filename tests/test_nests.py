"""Nests [16], [17], plain ones [23], words that decide [24] and nests that stay [25]."""

import random
import unittest

import chance
import naive
from firstmet.errors import BadProgram, TooLong, TooMany
from firstmet.nests import deciding, is_plain, nests_of, staying
from firstmet.programs import Program
from firstmet.running import run
from firstmet.tables import Shape
from support import Case, anything, by, each, look, of, put, rise, same, scan, seek, times

SHAPE = Shape((("t", ("a", "b")), ("u", ("a", "c")), ("w", ("d", "e", "f")), ("x", ("b",))))
HELD = ("h", ("g", "i"), ("s",))
T = ("t", ("a", "b"))


def out(*terms):
    return put("out", terms, [])


def made(body, *blocks, many=1):
    """A program whose answer has so many keys, and products with a sum of each entry."""
    return Program(SHAPE, (*blocks, ("out", tuple("klm"[:many]), ("n",))), body)


def out_of(v, *terms):
    """A put of the answer within a loop over entries."""
    return put("out", terms, [times(1, of(v, "s"))])


class Case16(Case):
    def nests(self, body, *blocks, many=1):
        program = made(body, *blocks, many=many)
        found = self.leaves_alone(nests_of, program)
        self.assertIs(found.__class__, list)
        again = nests_of(program)
        found.append(None)
        self.assertEqual(nests_of(program), again)
        return again

    def is_nest(self, rows, group, word, body, *blocks):
        self.assertEqual(repr(self.nests(body, *blocks, many=len(group))), repr([(rows, group, word)]))


class RowsAndWords(Case16):
    def test_put_alone(self):
        self.is_nest((), (5,), (), [out(5)])
        self.is_nest((), (), (), [out()])

    def test_scan(self):
        self.is_nest((T,), ("b",), (("row", 0),), [scan("r", "t", out(of("r", "b")))])
        self.is_nest((T, ("u", ("c", "d"))), ("d", "b", "d"), (("row", 0), ("row", 1)),
                     [scan("r", "t", scan("s", "u", out(of("s", "c"), of("r", "b"), of("s", "c"))))])

    def test_run(self):
        self.is_nest((T,), ("a",), (("value", "b"), ("row", 0)), [by("r", "t", "b", out(of("r", "a")))])
        self.is_nest((T, ("u", ("c", "d"))), ("a",), (("row", 0), ("value", "c"), ("row", 1)),
                     [scan("r", "t", by("s", "u", "a", out(of("r", "a"))))])

    def test_seek(self):
        self.is_nest((("t", (7, "a")),), ("a",), (("row", 0),), [seek("r", "t", "a", 7, out(of("r", "b")))])
        self.is_nest((T, ("u", ("b", "c"))), ("c",), (("row", 0), ("row", 1)),
                     [scan("r", "t", seek("s", "u", "a", of("r", "b"), out(of("s", "c"))))])

    def test_same(self):
        self.is_nest((("t", ("a", "a")),), ("a",), (("row", 0),),
                     [scan("r", "t", same(of("r", "b"), of("r", "a"), out(of("r", "b"))))])
        self.is_nest((T,), ("a",), (("row", 0),), [scan("r", "t", same(3, 3, same(of("r", "a"), of("r", "a"),
                                                                                     out(of("r", "a")))))])
        self.is_nest((("t", (4, "a")), ("u", ("a", 4))), (4,), (("row", 0), ("row", 1)),
                     [scan("r", "t", scan("s", "u", same(of("r", "a"), of("s", "c"),
                         same(of("r", "b"), of("s", "a"), same(
                         4, of("s", "c"), out(of("r", "a")))))))])

    def test_unknowns_that_a_given_value_joins(self):
        self.is_nest((("w", (4, 4, "a")),), (4,), (("row", 0),), [scan("r", "w", same(of("r", "d"), 4, same(
            4, of("r", "e"), out(of("r", "e")))))])
        self.is_nest((("w", (4, 4, 4)),), (4,), (("row", 0),), [scan("r", "w", same(of("r", "d"), of("r", "e"), same(
            of("r", "f"), of("r", "e"), same(4, of("r", "f"), out(of("r", "d"))))))])

    def test_given_values_in_a_word(self):
        self.is_nest((("t", ("a", 9)),), ("a",), (("value", 9), ("row", 0)),
                     [by("r", "t", "b", same(9, of("r", "b"), out(of("r", "a"))))])
        self.is_nest((("t", (9, 8)),), (9,), (("value", 8), ("value", 9), ("row", 0)), [
            by("r", "t", "a", put("h", [of("r", "a"), of("r", "b")], [])),
            rise("e", "h", "i", same(of("e", "g"), 9, same(8, of("e", "i"), out_of("e", of("e", "g")))))], HELD)

    def test_names_follow_the_rows(self):
        self.is_nest((("w", ("a", "b", "c")), ("t", ("c", "d"))), ("d", "a"), (("row", 0), ("value", "d"), ("row", 1)),
                     [scan("p", "w", by("q", "t", "b", same(of("q", "a"), of("p", "f"),
                         out(of("q", "b"), of("p", "d")))))])

    def test_several_nests_in_the_order_of_their_top_statements(self):
        body = [scan("r", "x", out(of("r", "b"))), out(3), scan("r", "x", scan("s", "t", out(of("s", "b")))),
                scan("r", "x", out(of("r", "b")))]
        self.assertEqual(self.nests(body), [
            ((("x", ("a",)),), ("a",), (("row", 0),)), ((), (3,), ()),
            ((("x", ("a",)), ("t", ("b", "c"))), ("c",), (("row", 0), ("row", 1))),
            ((("x", ("a",)),), ("a",), (("row", 0),))])

    def test_no_nests(self):
        self.assertEqual(self.nests([put("h", [1, 2], [])], HELD), [])

    def test_puts_of_other_blocks_and_puts_in_bodies_of_several(self):
        body = [scan("r", "t", put("h", [1, of("r", "a")], []), same(of("r", "a"), of("r", "b"), out(of("r", "b")),
                                                                     put("o", [], [])))]
        self.is_nest((("t", ("a", "a")),), ("a",), (("row", 0),), body, HELD, ("o", (), ("s",)))


class Blocks(Case16):
    FILL = by("r", "t", "b", scan("s", "u", same(of("r", "a"), of("s", "a"),
        put("h", [of("r", "b"), of("s", "c")], []))))
    ROWS = (("t", ("a", "b")), ("u", ("a", "c")))
    WORD = (("value", "b"), ("row", 0), ("row", 1))

    def test_each(self):
        self.is_nest(self.ROWS, ("c", "b"), self.WORD, [self.FILL,
            each("e", "h", out_of("e", of("e", "i"), of("e", "g")))],
                     HELD)

    def test_each_behind_other_rows(self):
        rows = (("x", ("a",)), ("t", ("b", "c")), ("u", ("b", "d")), ("x", ("c",)))
        word = (("row", 0), ("value", "c"), ("row", 1), ("row", 2), ("row", 3))
        self.is_nest(rows, ("d", "a"), word, [self.FILL, scan("p", "x", each("e", "h", seek(
            "q", "x", "b", of("e", "g"), out_of("e", of("e", "i"), of("p", "b")))))], HELD)

    def test_rise(self):
        for key, symbol in (("g", "b"), ("i", "c")):
            self.is_nest(self.ROWS, ("b",), (("value", symbol), *self.WORD),
                         [self.FILL, rise("e", "h", key, out_of("e", of("e", "g")))], HELD)

    def test_look(self):
        rows = (("w", ("a", "b", "c")), ("t", ("d", "a")), ("u", ("d", "c")))
        self.is_nest(rows, ("a", "b"), (("row", 0),), [self.FILL, scan("p", "w", look(
            "e", "h", [of("p", "d"), of("p", "f")], out_of("e", of("e", "g"), of("p", "e"))))], HELD)
        rows = (("w", ("a", 3, 3)), ("t", ("b", 3)), ("u", ("b", 3)))
        self.is_nest(rows, (3, 3), (("row", 0),), [self.FILL, scan("p", "w", same(of("p", "f"), of("p", "e"), look(
            "e", "h", [3, of("p", "e")], same(of("e", "i"), of("e", "g"), out_of("e", of("p", "f"), 3)))))], HELD)

    def test_look_with_one_term_twice(self):
        self.is_nest((("x", ("a",)), ("t", ("b", "a")), ("u", ("b", "a"))), ("a",), (("row", 0),), [
            self.FILL, scan("p", "x", look("e", "h", [of("p", "b"), of("p", "b")], out_of("e", of("e", "i"))))], HELD)

    def test_a_block_that_is_read_twice(self):
        rows = (("t", ("a", "b")), ("u", ("a", "c")), ("t", ("d", "b")), ("u", ("d", "e")))
        word = (*self.WORD, ("value", "e"), ("value", "b"), ("row", 2), ("row", 3))
        self.is_nest(rows, ("c", "e"), word, [self.FILL, each("e", "h", rise("f", "h", "i", same(
            of("e", "g"), of("f", "g"), put("out", [of("e", "i"), of("f", "i")],
                [times(1, of("e", "s"), of("f", "s"))]))))],
                     HELD)

    def test_one_block_through_another(self):
        rows = (("x", ("a",)), ("x", ("b",)), ("t", ("c", "b")), ("u", ("c", 7)))
        self.is_nest(rows, ("b",), (("row", 0), ("value", "b"), ("row", 1)), [
            self.FILL,
            scan("p", "x", look("e", "h", [of("p", "b"), 7], put("o", [of("p", "b")], [times(1, of("e", "s"))]))),
            scan("q", "x", rise("f", "o", "j", out_of("f", of("f", "j"))))], HELD, ("o", ("j",), ("s",)))
        rows = (("x", ("a",)), ("t", ("b", "a")), ("u", ("b", "c")), ("x", ("d",)))
        word = (("value", "c"), ("row", 0), ("value", "a"), ("row", 1), ("row", 2), ("row", 3))
        self.is_nest(rows, ("c", "d"), word, [
            self.FILL,
            scan("p", "x", each("e", "h", same(of("p", "b"), of("e", "g"), put("o", [of("e", "i")],
                                                                              [times(1, of("e", "s"))])))),
            rise("f", "o", "j", scan("q", "x", out_of("f", of("f", "j"), of("q", "b"))))], HELD, ("o", ("j",), ("s",)))

    def test_an_answer_that_is_read(self):
        program = Program(SHAPE, (("o", ("j",), ("s",)), ("out", ("k",), ("n",))), [
            scan("r", "x", out(of("r", "b"))), each("e", "out", put("o", [of("e", "k")], [times(1, of("e", "n"))]))])
        self.assertEqual(nests_of(program), [((("x", ("a",)),), ("a",), (("row", 0),))])


class Empty(Case16):
    def empty(self, body, *blocks):
        self.assertEqual(self.nests(body, *blocks), [])

    def test_unlike_values(self):
        self.empty([same(1, 2, out(1))])
        self.empty([seek("r", "t", "a", 1, same(of("r", "a"), 2, out(1)))])
        self.empty([seek("r", "t", "a", 1, seek("s", "t", "a", 2, same(of("s", "a"), of("r", "a"), out(1))))])
        self.empty([scan("r", "w", same(of("r", "d"), 1, same(of("r", "e"), 2, same(of("r", "f"), of("r", "e"), same(
            of("r", "d"), of("r", "f"), out(1))))))])

    def test_look(self):
        fill = scan("r", "t", same(of("r", "a"), 4, put("h", [of("r", "a"), of("r", "b")], [])))
        self.empty([fill, look("e", "h", [5, 5], out_of("e", 1))], HELD)
        self.assertEqual(len(self.nests([fill, look("e", "h", [4, 5], out_of("e", 1))], HELD)), 1)
        fill = scan("r", "t", put("h", [of("r", "a"), of("r", "a")], []))
        self.empty([fill, look("e", "h", [4, 5], out_of("e", 1))], HELD)

    def test_a_block_with_an_empty_nest(self):
        fill = scan("r", "t", same(4, 5, put("h", [of("r", "a"), of("r", "b")], [])))
        for reader in (each("e", "h", out_of("e", of("e", "g"))), rise("e", "h", "g", out_of("e", 1)),
                       look("e", "h", [1, 1], out_of("e", 1)), scan("q", "x", each("e", "h", out_of("e", 1)))):
            self.empty([fill, reader], HELD)
        other = ("o", ("j",), ("s",))
        self.empty([fill, each("e", "h", put("o", [1], [times(1, of("e", "s"))])), each("e", "o", out_of("e", 1))],
                   HELD, other)
        both = put("out", [1], [times(1, of("e", "s"), of("f", "s"))])
        self.empty([fill, put("o", [1], []), each("e", "h", each("f", "o", both))], HELD, other)
        self.empty([fill, put("o", [1], []), each("f", "o", each("e", "h", both))], HELD, other)

    def test_others_stay(self):
        body = [same(1, 2, out(1)), scan("r", "x", out(of("r", "b"))), scan("r", "x", same(1, 2, out(1))), out(4)]
        self.assertEqual(self.nests(body), [((("x", ("a",)),), ("a",), (("row", 0),)), ((), (4,), ())])


def deep(many, inner, first=0):
    """So many scans of x around a statement."""
    for at in range(many):
        inner = scan("pqrabcdef"[first + at], "x", inner)
    return inner


class SeventhRow(Case16):
    def too_many(self, body, *blocks):
        program = made(body, *blocks)
        for call in (nests_of, is_plain, staying):
            self.raises(TooMany, [], call, program)

    def test_six_and_seven(self):
        self.assertEqual(len(self.nests([deep(6, out(1))])[0][0]), 6)
        self.too_many([deep(7, out(1))])
        self.too_many([out(1), deep(2, out(1)), deep(7, out(1)), out(2)])

    def test_in_an_empty_nest(self):
        fill = deep(4, put("h", [1, 2], []))
        for many in (2, 3):
            for inner in (same(1, 2, each("e", "h", out_of("e", 1))), each("e", "h", same(1, 2, out_of("e", 1))),
                          look("e", "h", [1, 1], out_of("e", 1))):
                for body in ([fill, deep(many, inner, 4)], [out(1), fill, same(1, 2, deep(many, inner, 4)), out(2)]):
                    if many == 3:
                        self.too_many(body, HELD)
                    else:
                        self.assertEqual(len(self.nests(body, HELD)), len(body) // 2 * 2 - 2)
        self.too_many([deep(6, seek("g", "x", "b", 4, out(1)))])

    def test_in_a_block_that_is_read(self):
        for clash in (1, 2):
            fill = deep(4, same(1, clash, put("h", [1, 2], [])))
            self.assertEqual(len(self.nests([fill, deep(2, each("e", "h", out_of("e", 1)), 4)], HELD)), clash % 2)
            for reader in (each("e", "h", out_of("e", 1)), rise("e", "h", "g", out_of("e", 1)),
                           look("e", "h", [1, 2], out_of("e", 1)), look("e", "h", [7, 7], out_of("e", 1))):
                self.too_many([fill, deep(3, reader, 4)], HELD)
            self.too_many([fill, each("e", "h", each("f", "h",
                put("out", [1], [times(1, of("e", "s"), of("f", "s"))])))],
                          HELD)
        self.too_many([deep(7, put("h", [1, 2], [])), each("e", "h", out_of("e", 1))], HELD)

    def test_through_another_block(self):
        for many, clash in ((4, 1), (4, 2), (3, 1), (3, 2)):
            body = [deep(3, same(1, clash, put("h", [1, 2], []))),
                    deep(many, each("e", "h", put("o", [1], [times(1, of("e", "s"))])), 3),
                        each("e", "o", out_of("e", 1))]
            blocks = (HELD, ("o", ("j",), ("s",)))
            if many == 4:
                self.too_many(body, *blocks)
            else:
                self.assertEqual(len(self.nests(body, *blocks)), clash % 2)

    def test_in_a_block_that_the_answer_does_not_read(self):
        body = [deep(7, put("h", [1, 2], [])), out(3), each("e", "h", put("o", [1], [times(1, of("e", "s"))]))]
        self.assertEqual(self.nests(body, HELD, ("o", ("j",), ("s",))), [((), (3,), ())])


class NoProgram(Case):
    def test_no_program(self):
        for call in (nests_of, is_plain, staying):
            for thing in anything():
                if not isinstance(thing, Program):
                    self.raises(BadProgram, [thing], call, thing)


class Runs(Case):
    def test_the_keys_are_met_by_the_least_way(self):
        source = random.Random(17)
        many = 0
        for _ in range(500):
            program = chance.program(source, keys=source.choice((0, 1, 2)), tame=source.random() < 0.5)
            try:
                nests = nests_of(program)
                for _ in range(3):
                    store = chance.store(source)
                    told = [key for key, _ in run(program, store)]
                    self.assertEqual(told, naive.keys_in_order(nests, store), program.body)
                    many += len(told) > 1
            except (TooMany, TooLong):
                pass
        self.assertGreater(many, 150)


class Plain(Case):
    def plain(self, right, body, *blocks, many=1):
        self.assertIs(self.leaves_alone(is_plain, made(body, *blocks, many=many)), right)

    def test_plain_ones(self):
        self.plain(True, [scan("r", "t", out(of("r", "a")))])
        self.plain(True, [scan("r", "t", seek("s", "u", "a", of("r", "b"), out(of("s", "c"))))])
        self.plain(True, [seek("r", "t", "a", 5, out(of("r", "b")))])
        self.plain(True, [scan("r", "t", out(of("r", "a"), 7))], many=2)
        self.plain(True, [put("h", [1, 2], [])], HELD)

    def test_a_table_twice(self):
        self.plain(False, [scan("r", "t", seek("s", "t", "a", of("r", "b"), out(of("s", "b"))))])
        self.plain(False, [scan("r", "t", put("h", [of("r", "a"), 1], [])),
                           scan("q", "t", look("e", "h", [of("q", "a"), 1], out_of("e", of("q", "b"))))], HELD)
        self.plain(True, [scan("r", "u", put("h", [of("r", "a"), 1], [])),
                          scan("q", "t", look("e", "h", [of("q", "a"), 1], out_of("e", of("q", "b"))))], HELD)

    def test_a_row_without_an_unknown(self):
        self.plain(False, [scan("r", "t", seek("s", "x", "b", 5, out(of("r", "a"))))])
        self.plain(False, [seek("s", "u", "a", 5, same(of("s", "c"), 5, scan("r", "t", out(of("r", "a")))))])

    def test_unknowns_that_do_not_hang_together(self):
        self.plain(False, [scan("r", "t", scan("s", "u", out(of("r", "a"))))])
        self.plain(False, [scan("r", "t", scan("s", "u", out(of("r", "a"), of("s", "a"))))], many=2)
        self.plain(False, [seek("r", "t", "b", 5, seek("s", "u", "a", 5, out(of("r", "a"))))])
        self.plain(True, [scan("r", "t", scan("s", "u", scan("p", "w", same(of("r", "a"), of("p", "d"), same(
            of("s", "a"), of("p", "e"), out(of("r", "b")))))))])

    def test_no_unknown_in_the_group(self):
        self.plain(False, [scan("r", "t", out(5))])
        self.plain(False, [out(5)])
        self.plain(False, [seek("r", "t", "a", 5, out(of("r", "a")))])

    def test_given_symbols_in_several_nests(self):
        given = seek("r", "t", "a", 5, out(of("r", "b")))
        free = scan("r", "t", out(of("r", "b")))
        self.plain(True, [given])
        self.plain(True, [free, free])
        for body in ([given, free], [free, given], [given, given], [free, free, given]):
            self.plain(False, body)
        self.plain(True, [given, same(1, 2, free)])
        self.plain(True, [scan("r", "t", out(of("r", "b"), 5)), scan("r", "t", out(of("r", "b"), 6))], many=2)

    def test_one_nest_of_several_is_not_plain(self):
        free = scan("r", "t", out(of("r", "b")))
        for other in (out(5), scan("r", "t", out(5)), scan("r", "t", scan("s", "u", out(of("r", "a"))))):
            for body in ([free, other], [other, free]):
                self.plain(False, body)

    def test_an_answer_without_keys(self):
        body = [scan("r", "t", scan("s", "t", out())), out(), seek("r", "t", "a", 5, out())]
        self.plain(True, body, many=0)
        self.plain(True, body, HELD, many=0)
        self.plain(False, [out(5)], ("h", (), ("s",)))

    def test_empty_nests_count_for_nothing(self):
        self.plain(True, [scan("r", "t", scan("s", "t", same(1, 2, out(3)))), scan("r", "t", out(of("r", "b")))])


class Deciding(Case):
    def decides(self, decide, body, *blocks, many=1):
        [nest] = nests_of(made(body, *blocks, many=many))
        self.assertEqual(repr(self.leaves_alone(deciding, nest)), repr(decide))

    def test_the_example(self):
        inner = same(of("r", "a"), of("s", "a"), out(of("r", "a")))
        self.decides((("row", 0),), [scan("r", "t", scan("s", "u", inner))])
        self.decides((("row", 0),), [scan("s", "u", scan("r", "t", inner))])
        self.decides((("value", "b"), ("row", 0)), [by("r", "t", "b", scan("s", "u", inner))])
        self.assertEqual(deciding(((("t", ("a", "b")), ("u", ("a", "c"))), ("a",), (("row", 0), ("row", 1)))),
            (("row", 0),))
        self.assertEqual(deciding(((("t", ("a", "b")), ("u", ("a", "c"))), ("a",),
            (("value", "b"), ("row", 0), ("row", 1)))),
                         (("value", "b"), ("row", 0)))

    def test_a_row_that_leads_to_the_group(self):
        self.decides((("row", 0), ("row", 1)), [scan("s", "u", seek("r", "t", "a", of("s", "a"), out(of("r", "b"))))])
        self.decides((("row", 0),), [scan("r", "t", seek("s", "u", "a", of("r", "a"), out(of("r", "b"))))])
        self.decides((("row", 0), ("row", 1)),
                     [scan("r", "t", seek("s", "u", "a", of("r", "a"), out(of("r", "b"), of("s", "c"))))], many=2)

    def test_values(self):
        self.decides((("value", "a"),), [by("r", "t", "a", out(of("r", "a")))])
        self.decides((("value", "a"), ("row", 0)), [by("r", "t", "a", out(of("r", "b")))])
        self.decides((("row", 0),), [scan("r", "t", by("s", "u", "a",
            same(of("s", "a"), of("r", "a"), out(of("r", "a")))))])

    def test_given_values_decide_nothing(self):
        self.decides((("row", 0),), [by("r", "t", "a", same(of("r", "a"), 5, out(of("r", "b"))))])
        self.decides((("row", 0),), [by("r", "t", "a", same(of("r", "a"), 5, out(of("r", "a"), of("r", "b"))))], many=2)

    def test_what_is_behind_a_known_unknown(self):
        # u hangs together with the group by an unknown alone that is known once the row of t is.
        inner = same(of("r", "a"), of("s", "a"), out(of("r", "a"), of("r", "b")))
        self.decides((("row", 0),), [scan("r", "t", by("s", "u", "c", inner))], many=2)
        self.decides((("value", "b"), ("row", 0), ("row", 1)), [by("s", "u", "c", scan("r", "t", inner))], many=2)

    def test_an_unknown_that_is_known_parts_what_hung_together(self):
        # Once a is known by the run, c of u, which no key needs, hangs together with nothing that is asked for.
        self.decides((("value", "a"), ("row", 0)), [by("r", "t", "a", scan("s", "u", same(
            of("s", "a"), of("r", "a"), out(of("r", "a"), of("r", "b")))))], many=2)
        fill = scan("s", "u", put("h", [of("s", "a"), 1], []))
        self.decides((("value", "a"), ("row", 1)), [fill, rise("e", "h", "g", scan("r", "t", same(
            of("r", "a"), of("e", "g"), out_of("e", of("r", "b")))))], HELD)
        self.decides((("row", 0), ("row", 1)), [fill, each("e", "h", scan("r", "t", same(
            of("r", "a"), of("e", "g"), out_of("e", of("r", "b")))))], HELD)

    def test_no_word_is_left(self):
        self.assertEqual(deciding(((("t", ("a", "b")),), ("a",), ())), ())


class Staying(Case):
    def stay(self, indexes, body, *blocks, many=1):
        self.assertEqual(repr(self.leaves_alone(staying, made(body, *blocks, many=many))), repr(indexes))

    FREE = scan("r", "t", out(of("r", "b")))
    NARROW = scan("r", "t", seek("s", "u", "a", of("r", "a"), out(of("r", "b"))))

    def test_covered_by_one_ahead(self):
        self.stay((0,), [self.FREE, self.NARROW])
        self.stay((0,), [self.FREE, self.FREE, by("r", "t", "a", out(of("r", "b")))])
        self.stay((0, 1), [scan("r", "x", out(of("r", "b"))), self.FREE, self.NARROW,
            scan("r", "x", out(of("r", "b")))])

    def test_not_covered_by_one_behind(self):
        self.stay((0, 1), [self.NARROW, self.FREE])
        self.stay((0, 1), [self.NARROW, self.FREE, self.NARROW])

    def test_given_symbols(self):
        given = seek("r", "t", "a", 5, out(of("r", "b")))
        self.stay((0,), [self.FREE, given])
        self.stay((0, 1), [given, self.FREE])
        self.stay((0, 1), [given, seek("r", "t", "a", 6, out(of("r", "b")))])
        self.stay((0, 1), [out(5), out(6), out(5)])

    def test_the_group_counts(self):
        self.stay((0, 1), [self.FREE, scan("r", "t", out(of("r", "a")))])

    def test_empty_nests_have_no_index(self):
        self.stay((0, 1), [same(1, 2, self.FREE), self.NARROW, self.FREE])
        self.stay((), [same(1, 2, self.FREE)])

    def test_without_keys(self):
        self.stay((0,), [scan("r", "t", out()), scan("r", "t", scan("s", "u", out()))], many=0)
        self.stay((0,), [out(), scan("r", "t", out())], many=0)

    def test_programs_that_are_not_plain(self):
        self.stay((0,), [scan("r", "t", out(of("r", "b"))), scan("r", "t", scan("s", "t", out(of("r", "b"))))])


if __name__ == "__main__":
    unittest.main()
