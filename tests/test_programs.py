import inspect
import unittest

from firstmet import programs
from firstmet.errors import BadBlock, BadProgram, BadStore
from firstmet.programs import Program
from firstmet.tables import Shape
from support import SALES, Case, anything
from test_tables import RIGHT_NAMES, WRONG_NAMES

PUT = ("put", "paid", (), ((),))


class Blocks(Case):
    def right(self, blocks):
        """The blocks are right, the put of the last one aside."""
        name, keys, sums = blocks[-1]
        put = ("put", name, [1 for _ in keys], [() for _ in sums])
        return self.leaves_alone(Program, SALES, blocks, [put])

    def wrong(self, at, blocks):
        """The blocks are wrong there, whether the body is right or not."""
        for body in ((PUT,), (), None, (PUT, None)):
            self.raises(BadBlock, [at], Program, SALES, blocks, body)

    def wrong_at_each_place(self, thing):
        for many in (1, 3, 6):
            for at in range(many):
                blocks = [(name, ("k",), ("s",)) for name in "abcdef"[:many]]
                blocks[at] = thing
                with self.subTest(blocks=blocks):
                    self.wrong(at, blocks)
                    self.wrong(at, tuple(blocks))

    def test_attributes(self):
        program = self.right([("held", ["item"], ["s", "t"]), ("paid", (), ("total",))])
        self.assertEqual(repr(program.blocks), "(('held', ('item',), ('s', 't')), ('paid', (), ('total',)))")

    def test_one_to_six_blocks(self):
        for many in range(1, 7):
            self.assertEqual(len(self.right([(name, (), ("s",)) for name in "abcdef"[:many]]).blocks), many)
        self.wrong(-1, [])
        self.wrong(-1, ())
        self.wrong(-1, [(name, (), ("s",)) for name in "abcdefg"])

    def test_no_row_of_blocks(self):
        for thing in anything():
            if not isinstance(thing, (list, tuple)):
                with self.subTest(thing=thing):
                    self.wrong(-1, thing)
        self.wrong(-1, {"paid": ((), ("total",))})

    def test_wrong_row_is_ahead_of_wrong_blocks(self):
        self.wrong(-1, [None] * 7)
        self.wrong(-1, [("a", (), ("s",))] * 7)

    def test_no_block(self):
        for thing in anything():
            self.wrong_at_each_place(thing)

    def test_a_block_is_a_tuple_of_three(self):
        for thing in (["b", ("k",), ("s",)], ("b", ("k",)), ("b", ("k",), ("s",), ()), ("b",), ("b", {}, ("s",)),
                      (("k",), "b", ("s",)), ("b", ("k",), {"s": 1})):
            self.wrong_at_each_place(thing)

    def test_none_to_three_keys(self):
        for keys in ((), [], ("k",), ["k", "l"], ("k", "l", "m")):
            self.assertEqual(self.right([("b", keys, ("s",))]).blocks[0][1], tuple(keys))
        for keys in (("k", "l", "m", "n"), list("klmn"), None, "k", "", {}, 0, 1):
            self.wrong_at_each_place(("b", keys, ("s",)))

    def test_one_to_three_sums(self):
        for sums in (("s",), ["s", "t"], ("s", "t", "u")):
            self.assertEqual(self.right([("b", ("k",), sums)]).blocks[0][2], tuple(sums))
        self.right([("b", ("k", "l", "m"), ("s", "t", "u"))])
        for sums in ((), [], ("s", "t", "u", "w"), list("stuw"), None, "s", {}, 1):
            self.wrong_at_each_place(("b", ("k",), sums))

    def test_names(self):
        for name in RIGHT_NAMES:
            if name != "sale":
                self.right([(name, (), ("s",))])
            self.right([("b", (name,), ("s",))])
            self.right([("b", (), (name,))])
        for name in WRONG_NAMES:
            self.wrong_at_each_place((name, ("k",), ("s",)))
            for row in ((name,), (name, "x", "y"), ("x", name, "y"), ["x", "y", name]):
                self.wrong_at_each_place(("b", row, ("s",)))
                self.wrong_at_each_place(("b", ("k",), row))

    def test_none_twice_among_keys_and_sums(self):
        for keys, sums in ((("k", "k"), ("s",)), (["k", "l", "k"], ("s",)), ((), ("s", "s")), (("k",), ["s", "t", "s"]),
                           (("k",), ("k",)), (("k", "l", "m"), ("s", "t", "m")), (["k", "s"], ["s", "t"])):
            self.wrong_at_each_place(("z", keys, sums))

    def test_a_name_that_is_a_table(self):
        self.wrong_at_each_place(("sale", ("k",), ("s",)))
        self.wrong_at_each_place(("price", ("k",), ("s",)))

    def test_a_name_twice(self):
        self.wrong(1, [("a", (), ("s",)), ("a", (), ("s",))])
        self.wrong(2, [("a", (), ("s",)), ("b", (), ("s",)), ("a", ("k",), ("s",)), ("b", (), ("s",))])
        self.wrong(5, [(name, (), ("s",)) for name in "abcdee"])

    def test_the_first_wrong_one_is_told(self):
        self.wrong(0, [("a", (), ()), ("b", (), ("s",)), ("b", (), ("s",))])
        self.wrong(1, [("b", (), ("s",)), ("b", (), ("s",)), None])
        self.wrong(1, [("b", (), ("s",)), ("sale", (), ("s",)), ("b", (), ("s",))])

    def test_keys_and_sums_may_be_called_as_other_things(self):
        self.right([("b", ("b", "sale"), ("item", "c")), ("c", ("b", "sale"), ("item", "c"))])


class Programs(Case):
    blocks = (("held", ("item",), ("s", "t")), ("paid", ("item",), ("total",)))
    rows_as_lists = [
        ("run", "p", "price", "cost", [
            ("put", "held", [("of", "p", "item")], [[(1, [("of", "p", "cost")]), (-2, [])], []]),
        ]),
        ("seek", "s", "sale", "item", 7, [
            ("same", ("of", "s", "item"), 1, [
                ("look", "h", "held", [("of", "s", "item")], [
                    ("put", "paid", [("of", "h", "item")], [[(3, [("of", "h", "s"), ("of", "s", "many")])]]),
                ]),
            ]),
        ]),
    ]
    rows_as_tuples = (
        ("run", "p", "price", "cost", (
            ("put", "held", (("of", "p", "item"),), (((1, (("of", "p", "cost"),)), (-2, ())), ())),
        )),
        ("seek", "s", "sale", "item", 7, (
            ("same", ("of", "s", "item"), 1, (
                ("look", "h", "held", (("of", "s", "item"),), (
                    ("put", "paid", (("of", "h", "item"),), (((3, (("of", "h", "s"), ("of", "s", "many"))),),)),
                )),
            )),
        )),
    )

    def test_attributes(self):
        for body in (self.rows_as_lists, self.rows_as_tuples):
            program = self.leaves_alone(Program, SALES, list(self.blocks), body)
            self.assertEqual(program.shape, SALES)
            self.assertEqual(repr(program.blocks), repr(self.blocks))
            self.assertEqual(repr(program.body), repr(self.rows_as_tuples))

    def test_the_example_of_the_document(self):
        plain = (("scan", "s", "sale", (("scan", "p", "price", (("same", ("of", "s", "item"), ("of", "p", "item"), (
            ("put", "paid", (("of", "s", "item"),), (((1, (("of", "s", "many"), ("of", "p", "cost"))),),)),)),)),)),)
        self.assertEqual(Program(SALES, (("paid", ("item",), ("total",)),), plain).body, plain)
        held = (
            ("scan", "p", "price", (("put", "held", (("of", "p", "item"),), (((1, (("of", "p", "cost"),)),),)),)),
            ("scan", "s", "sale", (("look", "p", "held", (("of", "s", "item"),), (
                ("put", "paid", (("of", "s", "item"),), (((1, (("of", "s", "many"), ("of", "p", "s"))),),)),)),)),
        )
        blocks = (("held", ("item",), ("s",)), ("paid", ("item",), ("total",)))
        self.assertEqual(Program(SALES, blocks, held).body, held)

    def test_no_shape(self):
        for thing in anything():
            if not isinstance(thing, Shape):
                with self.subTest(thing=thing):
                    self.raises(BadStore, [thing], Program, thing, self.blocks, self.rows_as_tuples)

    def test_errors_in_their_order(self):
        self.raises(BadStore, [None], Program, None, None, None)
        self.raises(BadStore, [1], Program, 1, (), self.rows_as_tuples)
        self.raises(BadBlock, [-1], Program, SALES, (), ())
        self.raises(BadBlock, [1], Program, SALES, (self.blocks[0], self.blocks[0]), None)
        self.raises(BadProgram, [()], Program, SALES, self.blocks, None)

    def test_no_row_of_statements(self):
        for thing in anything():
            if not isinstance(thing, (list, tuple)):
                with self.subTest(thing=thing):
                    self.raises(BadProgram, [()], Program, SALES, self.blocks, thing)
        for body in ((), [], [None] * 13, {0: self.rows_as_tuples[0]}):
            self.raises(BadProgram, [()], Program, SALES, self.blocks, body)

    def test_one_to_twelve_top_statements(self):
        put = ("put", "paid", (1,), ((),))
        for many in (1, 2, 11, 12):
            self.assertEqual(Program(SALES, self.blocks, [put] * many).body, (put,) * many)
        self.raises(BadProgram, [()], Program, SALES, self.blocks, [put] * 13)
        self.raises(BadProgram, [()], Program, SALES, self.blocks, (None,) + (put,) * 12)

    def test_what_was_given_may_change(self):
        sums, keys, term, factors = ["total"], ["item"], [1], [("of", "r", "item")]
        products = [(1, factors)]
        adds = [products]
        inner = [("put", "paid", term, adds)]
        blocks, body = [("paid", keys, sums)], [("scan", "r", "sale", inner)]
        program = Program(SALES, blocks, body)
        for row in (sums, keys, term, factors, products, adds, inner, blocks, body):
            row.append(None)
        self.assertEqual(program.blocks, (("paid", ("item",), ("total",)),))
        put = ("put", "paid", (1,), (((1, (("of", "r", "item"),)),),))
        self.assertEqual(program.body, (("scan", "r", "sale", (put,)),))

    def test_equal(self):
        program = Program(SALES, self.blocks, self.rows_as_tuples)
        self.assertEqual(program, Program(Shape(list(SALES.tables)), list(self.blocks), self.rows_as_lists))
        self.assertFalse(program != Program(SALES, self.blocks, self.rows_as_lists))
        more = Shape(SALES.tables + (("t", ("f",)),))
        put = ("put", "paid", (1,), ((),))
        self.equals_nothing_else(program, [
            Program(more, self.blocks, self.rows_as_tuples),
            Program(SALES, (("x", (), ("n",)),) + self.blocks, self.rows_as_tuples),
            Program(SALES, (self.blocks[1], self.blocks[0]), self.rows_as_tuples),
            Program(SALES, self.blocks, self.rows_as_tuples[:1]),
            Program(SALES, self.blocks, self.rows_as_tuples + (put,)),
        ])
        one = Program(SALES, self.blocks, (put,))
        for other in (("put", "paid", (2,), ((),)), ("put", "paid", (1,), (((1, ()),),)), ("same", 1, 1, (put,))):
            self.equals_nothing_else(one, [Program(SALES, self.blocks, (other,))])

    def test_equal_to_nothing_else(self):
        program = Program(SALES, self.blocks, self.rows_as_tuples)
        self.equals_nothing_else(program, anything() + [(SALES, self.blocks, self.rows_as_tuples), program.body])

    def test_names_and_arguments(self):
        told = list(inspect.signature(vars(Program)["__init__"]).parameters)
        self.assertEqual(told, ["self", "shape", "blocks", "body"])
        self.assertIn("__eq__", vars(Program))
        self.assertEqual(Program.__module__, programs.__name__)


if __name__ == "__main__":
    unittest.main()
