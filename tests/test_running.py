"""Running [12]: each kind of statement [10], with the blocks [8], terms and products [9]."""

import unittest

import naive
from firstmet.errors import BadProgram, BadStore, TooLong
from firstmet.programs import Program
from firstmet.running import held, run, trace, turns
from firstmet.tables import Shape, Store
from support import SALES, Case, anything, by, each, look, of, put, rise, same, scan, seek, times

SHAPE = Shape((("t", ("a", "b")), ("u", ("c",)), ("w", ("d",))))
OUT = ("out", ("k",), ("n",))
ROWS = {"t": [(3, 1), (1, 2), (3, 3), (2, 4), (1, 5)], "u": [(3,), (1,), (9,)]}
BIG = 10 ** 9
CALLS = (run, turns, held, trace)


def program(body, *blocks):
    return Program(SHAPE, (*blocks, OUT), body)


class Running(Case):
    def told(self, body, *blocks, rows=None):
        """What run tells, and that the others tell the same of it as it is done in the plainest way."""
        made = program(body, *blocks)
        store = Store(SHAPE, ROWS if rows is None else rows)
        told = self.leaves_alone(run, made, store)
        plain, many, steps, blocks_held = naive.run(made, store)
        self.assertEqual(repr(told), repr(plain))
        self.assertEqual(turns(made, store), many)
        self.assertEqual(trace(made, store), steps)
        self.assertEqual(held(made, store), blocks_held)
        return told


class Statements(Running):
    def test_scan_goes_in_row_order(self):
        told = self.told([scan("r", "t", put("out", [of("r", "a")], [times(1, of("r", "b"))]))])
        self.assertEqual(repr(told), "[((3,), (4,)), ((1,), (7,)), ((2,), (4,))]")

    def test_run_goes_by_value_and_then_in_row_order(self):
        body = [by("r", "t", "a", put("out", [of("r", "b")], [times(1, of("r", "a"))]))]
        self.assertEqual(self.told(body), [((2,), (1,)), ((5,), (1,)), ((4,), (2,)), ((1,), (3,)), ((3,), (3,))])
        rows = {"t": [(0, 1), (-BIG, 2), (BIG, 3), (0, 4), (-BIG, 5), (-1, 6), (0, 7)]}
        self.assertEqual([key for (key,), _ in self.told(body, rows=rows)], [2, 5, 6, 1, 4, 7, 3])

    def test_run_by_the_second_field(self):
        body = [by("r", "t", "b", put("out", [of("r", "a")], [times(1)]))]
        self.assertEqual(self.told(body, rows={"t": [(1, 9), (2, -9), (3, 0), (2, 5)]}),
                         [((2,), (2,)), ((3,), (1,)), ((1,), (1,))])

    def test_seek(self):
        inner = put("out", [of("r", "b")], [times(1)])
        self.assertEqual(self.told([seek("r", "t", "a", 3, inner)]), [((1,), (1,)), ((3,), (1,))])
        self.assertEqual(self.told([seek("r", "t", "b", 4, inner)]), [((4,), (1,))])
        self.assertEqual(self.told([seek("r", "t", "a", 7, inner)]), [])
        self.assertEqual(self.told([scan("s", "u", seek("r", "t", "a", of("s", "c"), inner))]),
                         [((1,), (1,)), ((3,), (1,)), ((2,), (1,)), ((5,), (1,))])

    def test_seek_by_a_key_of_an_entry(self):
        body = [scan("r", "t", put("h", [of("r", "b")], [times(1)])),
                each("e", "h", seek("s", "u", "c", of("e", "g"), put("out", [of("s", "c")], [times(1, of("e", "s"))])))]
        self.assertEqual(self.told(body, ("h", ("g",), ("s",))), [((1,), (1,)), ((3,), (1,))])

    def test_same(self):
        inner = put("out", [of("r", "b")], [times(1)])
        for left, right in ((of("r", "a"), 3), (3, of("r", "a"))):
            self.assertEqual(self.told([scan("r", "t", same(left, right, inner))]), [((1,), (1,)), ((3,), (1,))])
        self.assertEqual(self.told([scan("r", "t", same(of("r", "a"), of("r", "b"), inner))]), [((3,), (1,))])
        self.assertEqual(len(self.told([scan("r", "t", same(of("r", "a"), of("r", "a"), inner))])), 5)
        self.assertEqual(len(self.told([scan("r", "t", same(4, 4, inner))])), 5)
        self.assertEqual(self.told([scan("r", "t", same(4, -4, inner))]), [])

    def test_same_with_keys_on_either_side(self):
        for left, right in ((of("e", "g"), 1), (1, of("e", "g")), (of("e", "g"), of("e", "i")),
                            (of("s", "c"), of("e", "g")), (of("e", "g"), of("s", "c"))):
            body = [scan("r", "t", put("h", [of("r", "a"), of("r", "b")], [times(1)])),
                    scan("s", "u", each("e", "h", same(left, right, put("out", [of("e", "i")],
                                                                        [times(1, of("e", "s"))]))))]
            self.assertNotEqual(self.told(body, ("h", ("g", "i"), ("s",))), [])

    def test_each_goes_in_the_order_of_first_puts(self):
        body = [scan("r", "t", put("h", [of("r", "a")], [times(1, of("r", "b"))])),
                each("e", "h", put("out", [of("e", "g")], [times(10, of("e", "s"))]))]
        self.assertEqual(self.told(body, ("h", ("g",), ("s",))), [((3,), (40,)), ((1,), (70,)), ((2,), (40,))])

    def test_rise_goes_by_a_key_and_then_in_that_order(self):
        body = [scan("r", "t", put("h", [of("r", "b"), of("r", "a")], [times(1)])),
                rise("e", "h", "i", put("out", [of("e", "g")], [times(1, of("e", "s"))]))]
        self.assertEqual([key for (key,), _ in self.told(body, ("h", ("g", "i"), ("s",)))], [2, 5, 4, 1, 3])

    def test_look(self):
        first = scan("r", "t", put("h", [of("r", "a"), of("r", "b")], [times(1, of("r", "b"))]))
        inner = put("out", [of("e", "i")], [times(1, of("e", "s"), of("e", "g"))])
        block = ("h", ("g", "i"), ("s",))
        self.assertEqual(self.told([first, look("e", "h", [2, 4], inner)], block), [((4,), (8,))])
        self.assertEqual(self.told([first, look("e", "h", [4, 2], inner)], block), [])
        self.assertEqual(self.told([first, scan("s", "u", look("e", "h", [of("s", "c"), 3], inner))], block),
                         [((3,), (9,))])
        self.assertEqual(self.told([first, each("f", "h", look("e", "h", [of("f", "g"), of("f", "i")], put(
            "out", [of("e", "i")], [times(1, of("e", "s"), of("f", "s"))])))], block)[:2], [((1,), (1,)), ((2,), (4,))])

    def test_a_block_without_keys(self):
        block = ("h", (), ("s",))
        inner = put("out", [7], [times(1, of("e", "s"))])
        for reader in (each("e", "h", inner), look("e", "h", [], inner)):
            body = [scan("r", "t", put("h", [], [times(1, of("r", "b"))])), reader]
            self.assertEqual(self.told(body, block), [((7,), (15,))])
            self.assertEqual(self.told(body, block, rows={}), [])

    def test_puts_in_the_order_of_time(self):
        body = [scan("r", "t", same(of("r", "a"), 1, put("h", [5], [times(1)])), put("out", [of("r", "a")], []))]
        store = Store(SHAPE, ROWS)
        self.assertEqual(repr(trace(program(body, ("h", ("g",), ("s",))), store)), repr([
            ("out", (3,)), ("h", (5,)), ("out", (1,)), ("out", (3,)), ("out", (2,)), ("h", (5,)), ("out", (1,))]))

    def test_loops_one_in_the_other(self):
        body = [scan("r", "t", by("s", "u", "c", put("out", [of("s", "c")], [times(1, of("r", "b"), of("s", "c"))])))]
        self.assertEqual(self.told(body), [((1,), (15,)), ((3,), (45,)), ((9,), (135,))])

    def test_a_top_statement_may_put_at_once(self):
        self.assertEqual(self.told([put("out", [1], [times(5)]), put("out", [1], [times(-2), times(4)])], rows={}),
                         [((1,), (7,))])


class Sums(Running):
    def test_a_key_whose_sums_are_0_stays(self):
        body = [scan("r", "t", put("out", [of("r", "a")], [times(1, of("r", "b")), times(-1, of("r", "b"))]))]
        self.assertEqual(self.told(body), [((3,), (0,)), ((1,), (0,)), ((2,), (0,))])

    def test_no_products(self):
        self.assertEqual(self.told([scan("r", "u", put("out", [of("r", "c")], []))]),
                         [((3,), (0,)), ((1,), (0,)), ((9,), (0,))])

    def test_several_products_and_multiples_below_0(self):
        body = [scan("r", "t", put("out", [0], [times(-3), times(1000, of("r", "a")), times(-1000, of("r", "a")),
                                                times(2, of("r", "a"), of("r", "b"))]))]
        self.assertEqual(self.told(body), [((0,), (-15 + 2 * (3 + 2 + 9 + 8 + 5),))])

    def test_great_sums(self):
        body = [scan("r", "t", put("out", [1], [times(1000, of("r", "a"), of("r", "a"), of("r", "b"))]))]
        self.assertEqual(self.told(body, rows={"t": [(BIG, BIG), (BIG, BIG), (-BIG, -1)]}),
                         [((1,), (2000 * BIG ** 3 - 1000 * BIG ** 2,))])

    def test_sums_of_sums_of_sums(self):
        blocks = [(name, ("g",), ("s",)) for name in ("ha", "hb", "hc")]
        body = [scan("r", "t", put("ha", [of("r", "a")], [times(1, of("r", "b"))]))]
        for inner, outer in (("ha", "hb"), ("hb", "hc"), ("hc", "out")):
            body.append(each("e", inner, put(outer, [of("e", "g")],
                [times(-2, of("e", "s"), of("e", "s"), of("e", "g"))])))
        worth = {3: 4, 1: 7, 2: 4}
        for key in worth:
            for _ in range(3):
                worth[key] = -2 * worth[key] ** 2 * key
        self.assertEqual(self.told(body, *blocks), [((key,), (worth[key],)) for key in worth])

    def test_several_sums_of_one_block(self):
        shape_blocks = (("h", ("g",), ("s", "t", "u")),)
        body = [scan("r", "t", put("h", [1], [times(1)], [times(1, of("r", "a"))], [times(1, of("r", "b"))])),
                each("e", "h", put("out", [1], [times(1, of("e", "s"), of("e", "t"), of("e", "u"))]))]
        self.assertEqual(self.told(body, *shape_blocks), [((1,), (5 * 10 * 15,))])

    def test_fields_keys_and_sums_as_factors(self):
        body = [scan("r", "t", put("h", [of("r", "a")], [times(1)])),
                scan("s", "u", look("e", "h", [of("s", "c")], put("out", [0], [
                    times(5, of("s", "c"), of("e", "g"), of("e", "s"))])))]
        self.assertEqual(self.told(body, ("h", ("g",), ("s",))), [((0,), (5 * (3 * 3 * 2 + 1 * 1 * 2),))])


class Blocks(Running):
    def test_a_block_that_several_top_statements_put(self):
        body = [scan("r", "u", put("out", [of("r", "c")], [times(1)])),
                scan("r", "t", put("out", [of("r", "a")], [times(1, of("r", "b"))])),
                put("out", [3], [times(100)])]
        self.assertEqual(self.told(body), [((3,), (105,)), ((1,), (8,)), ((9,), (1,)), ((2,), (4,))])

    def test_a_block_that_nothing_puts(self):
        made = Program(SHAPE, (("h", ("g",), ("s", "t")), ("never", (), ("s",)), OUT),
                       [scan("r", "u", put("h", [1], [], [times(2)]))])
        store = Store(SHAPE, ROWS)
        self.assertEqual(run(made, store), [])
        self.assertEqual(repr(held(made, store)), "{'h': [((1,), (0, 6))], 'never': [], 'out': []}")
        self.assertEqual(turns(made, store), 3)

    def test_an_answer_that_is_read(self):
        made = Program(SHAPE, (("h", ("g",), ("s",)), OUT),
                       [scan("r", "t", put("out", [of("r", "a")], [times(1)])),
                        each("e", "out", put("h", [of("e", "k")], [times(3, of("e", "n"))]))])
        store = Store(SHAPE, ROWS)
        self.assertEqual(run(made, store), [((3,), (2,)), ((1,), (2,)), ((2,), (1,))])
        self.assertEqual(held(made, store)["h"], [((3,), (6,)), ((1,), (6,)), ((2,), (3,))])

    def test_two_blocks_of_one_top_statement(self):
        body = [scan("r", "t", put("h", [of("r", "a")], [times(1)]), put("out", [of("r", "b")], [times(1)]))]
        self.assertEqual(len(self.told(body, ("h", ("g",), ("s",)))), 5)

    def test_empty_tables(self):
        for kind in (scan("r", "t", put("out", [1], [])), by("r", "t", "a", put("out", [1], [])),
                     seek("r", "t", "a", 1, put("out", [1], []))):
            self.assertEqual(self.told([kind], rows={}), [])


class TooManyTurns(Running):
    """200 rows of t with 99 of u each give 20,000 turns; 199, and then 99 of u, give 19,999."""

    BLOCKS = (("h", ("g",), ("s",)), OUT)
    FIRST = put("h", [7], [times(1)])
    LAST = (scan("x", "w", put("out", [1], [])), by("x", "w", "d", put("out", [1], [])),
            seek("x", "w", "d", 5, put("out", [1], [])), each("x", "h", put("out", [1], [])),
            rise("x", "h", "g", put("out", [1], [])), look("x", "h", [7], put("out", [1], [])))

    def made(self, *last):
        return Program(SHAPE, self.BLOCKS, [self.FIRST, scan("r", "t", scan("s", "u", put("out", [0], [times(1)]))),
            *last])

    def store(self, many):
        return Store(SHAPE, {"t": [(0, 0)] * many, "u": [(0,)] * 99, "w": [(5,)]})

    def test_20000_turns(self):
        made = self.made()
        self.assertEqual(turns(made, self.store(200)), 20000)
        self.assertEqual(run(made, self.store(200)), [((0,), (19800,))])
        self.assertEqual(len(trace(made, self.store(200))), 19801)
        self.assertEqual(held(made, self.store(200))["out"], [((0,), (19800,))])

    def test_each_kind_as_the_last_turn(self):
        more = scan("r", "u", put("out", [0], []))
        for last in self.LAST:
            with self.subTest(last=last):
                self.assertEqual(turns(self.made(more, last), self.store(199)), 20000)
                for call in CALLS:
                    self.raises(TooLong, [], call, self.made(last), self.store(200))
                self.raises(TooLong, [], turns, self.made(more, last, last), self.store(199))

    def test_turns_of_one_loop_in_another(self):
        shape_rows = {"t": [(0, at) for at in range(27)], "u": [(0,)] * 27}
        for inner in (scan("z", "t", put("out", [1], [])), by("z", "t", "b", put("out", [1], [])),
                      seek("z", "t", "a", 0, put("out", [1], []))):
            made = program([scan("x", "t", scan("y", "u", inner))])
            self.raises(TooLong, [], turns, made, Store(SHAPE, shape_rows))
            rows = {"t": shape_rows["t"][:26], "u": shape_rows["u"][:26]}
            self.assertEqual(turns(made, Store(SHAPE, rows)), 26 + 26 ** 2 + 26 ** 3)

    def test_what_is_no_turn(self):
        idle = [same(1, 2, scan("x", "w", put("out", [1], []))), seek("x", "w", "d", 4, put("out", [1], [])),
                look("x", "h", [8], put("out", [1], [])), same(1, 1, put("out", [1], []))]
        self.assertEqual(turns(self.made(*idle), self.store(200)), 20000)

    def test_no_turns(self):
        self.assertEqual(turns(program([put("out", [1], [])]), Store(SHAPE, ROWS)), 0)


class Wrong(Running):
    def setUp(self):
        self.made = program([scan("r", "u", put("out", [1], []))])
        self.store = Store(SHAPE, {})

    def test_no_program_ahead_of_no_store(self):
        for call in CALLS:
            for thing in anything():
                if not isinstance(thing, Program):
                    for store in (self.store, None, 1, Store(SALES, {})):
                        self.raises(BadProgram, [thing], call, thing, store)

    def test_no_store(self):
        for call in CALLS:
            for thing in anything():
                self.raises(BadStore, [thing], call, self.made, thing)

    def test_a_store_of_another_shape(self):
        tables = SHAPE.tables
        for other in (tables[::-1], tables[:2], (*tables, ("x", ("a",))), (("t", ("a", "b", "c")), *tables[1:]),
                      (("t", ("b", "a")), *tables[1:]), (("v", ("a", "b")), *tables[1:])):
            store = Store(Shape(other), {})
            for call in CALLS:
                self.raises(BadStore, [store], call, self.made, store)

    def test_a_store_of_an_equal_shape(self):
        store = Store(Shape([(table, list(fields)) for table, fields in SHAPE.tables]), {"u": [[4], [5]]})
        self.assertEqual(turns(self.made, store), 2)


class Answers(Running):
    def test_what_is_returned_may_be_changed(self):
        made = program([scan("r", "t", put("h", [of("r", "a")], [times(1)])),
                        each("e", "h", put("out", [of("e", "g")], [times(1, of("e", "s"))]))], ("h", ("g",), ("s",)))
        store = Store(SHAPE, ROWS)
        for call in (run, held, trace):
            before = repr(call(made, store))
            told = call(made, store)
            if call is held:
                told["h"].append(None)
                told["out"].clear()
            told.clear()
            self.assertEqual(repr(call(made, store)), before)
        self.assertEqual(store, Store(SHAPE, ROWS))

    def test_kinds_of_values(self):
        made = program([scan("r", "u", put("out", [of("r", "c")], [times(1)]))])
        store = Store(SHAPE, ROWS)
        self.assertIs(run(made, store).__class__, list)
        self.assertIs(trace(made, store).__class__, list)
        self.assertIs(held(made, store).__class__, dict)
        self.assertIs(turns(made, store).__class__, int)
        self.assertEqual({part.__class__ for line in run(made, store) for part in (line, *line)}, {tuple})


if __name__ == "__main__":
    unittest.main()
