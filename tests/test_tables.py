import inspect
import unittest

from firstmet import tables
from firstmet.errors import BadIndex, BadName, BadRows, BadShape, BadStore, TooMany
from firstmet.tables import Shape, Store
from support import SALES, Case, anything

WRONG_NAMES = ["", "abcdefghi", "A", "aB", "Sale", "a1", "1", "a_b", "a b", " a", "a ", "a\n", "\na", "\t", "a-b", "~",
               "a.b", "\u00e9", "\u00df", None, True, 0, 1, ("a",), ["a"], {}, (), {"a": 1}, SALES]
RIGHT_NAMES = ["a", "z", "ab", "abcdefg", "abcdefgh", "zzzzzzzz", "of", "scan", "none", "sale"]
BIG = 10 ** 9


def table(name, *fields):
    return (name, fields)


class Shapes(Case):
    def wrong(self, at, tables):
        self.raises(BadShape, [at], Shape, tables)

    def wrong_at_each_place(self, thing):
        """The thing is no table, as the first, a middle and the last one."""
        for many in (1, 3, 5):
            for at in range(many):
                row = [table(name, "x") for name in "abcde"[:many]]
                row[at] = thing
                with self.subTest(row=row):
                    self.wrong(at, row)
                    self.wrong(at, tuple(row))

    def test_attributes(self):
        shape = self.leaves_alone(Shape, [("sale", ["item", "many"]), ("price", ("item", "cost"))])
        self.assertEqual(repr(shape.tables), "(('sale', ('item', 'many')), ('price', ('item', 'cost')))")
        self.assertEqual(Shape([("t", ["f"])]).tables, (("t", ("f",)),))

    def test_fields_of(self):
        self.assertEqual(repr(SALES.fields_of("sale")), "('item', 'many')")
        self.assertEqual(SALES.fields_of("price"), ("item", "cost"))
        self.assertEqual(Shape([("t", ["f", "g", "h", "i"])]).fields_of("t"), ("f", "g", "h", "i"))

    def test_fields_of_no_table(self):
        for thing in anything() + ["item", "prices", "sal", ("sale",), ["sale"]]:
            if thing != "sale":
                with self.subTest(thing=thing):
                    self.raises(BadName, [thing], SALES.fields_of, thing)

    def test_one_to_five_tables(self):
        for many in (1, 2, 3, 4, 5):
            self.assertEqual(len(Shape([table(name, "x") for name in "abcde"[:many]]).tables), many)
        self.wrong(-1, [])
        self.wrong(-1, ())
        self.wrong(-1, [table(name, "x") for name in "abcdef"])
        self.wrong(-1, tuple([table(name, "x") for name in "abcdefgh"]))

    def test_no_row_of_tables(self):
        for thing in anything():
            if not isinstance(thing, (list, tuple)):
                with self.subTest(thing=thing):
                    self.wrong(-1, thing)
        self.wrong(-1, {"sale": ("item",)})
        self.wrong(-1, {0: table("a", "x")})

    def test_wrong_row_is_ahead_of_wrong_tables(self):
        self.wrong(-1, [None] * 6)
        self.wrong(-1, [table("a", "x")] * 6)

    def test_no_table(self):
        for thing in anything():
            self.wrong_at_each_place(thing)

    def test_a_table_is_a_tuple_of_two(self):
        for thing in (["t", ("f",)], ("t",), ("t", ("f",), ("g",)), ("t", "f"), (("f",), "t"), ("t", {"f": 1})):
            self.wrong_at_each_place(thing)

    def test_one_to_four_fields(self):
        for many in (1, 2, 3, 4):
            self.assertEqual(Shape([("t", list("fghi")[:many])]).fields_of("t"), tuple("fghi")[:many])
        for fields in ((), [], tuple("fghij"), list("fghij"), None, "f", "fg", 1):
            self.wrong_at_each_place(("t", fields))

    def test_names_of_tables(self):
        for name in RIGHT_NAMES:
            self.assertEqual(Shape([(name, ("f",))]).fields_of(name), ("f",))
        for name in WRONG_NAMES:
            self.wrong_at_each_place((name, ("f",)))

    def test_names_of_fields(self):
        for name in RIGHT_NAMES:
            self.assertEqual(Shape([("t", (name,))]).fields_of("t"), (name,))
        for name in WRONG_NAMES:
            for fields in ((name,), (name, "f", "g"), ("f", name, "g"), ("f", "g", "h", name)):
                self.wrong_at_each_place(("t", fields))

    def test_a_field_twice(self):
        for fields in (("f", "f"), ["f", "g", "f"], ("f", "g", "h", "h")):
            self.wrong_at_each_place(("t", fields))

    def test_a_field_may_be_called_as_a_table_or_a_field_of_another_table(self):
        Shape([("t", ("t", "u")), ("u", ("t", "u"))])

    def test_a_table_twice(self):
        self.wrong(1, [table("a", "x"), table("a", "x")])
        self.wrong(2, [table("a", "x"), table("b", "x"), table("a", "y"), table("b", "x")])
        self.wrong(4, [table("a", "x"), table("b", "x"), table("c", "y"), table("d", "x"), table("d", "x")])

    def test_the_first_wrong_one_is_told(self):
        self.wrong(0, [("a", ()), table("b", "x"), table("b", "x")])
        self.wrong(1, [table("b", "x"), table("b", "x"), ("a", ())])
        self.wrong(1, [table("b", "x"), None, None])

    def test_what_was_given_may_change(self):
        fields = ["item", "many"]
        rows = [("sale", fields)]
        shape = Shape(rows)
        fields.append("more")
        rows.append(table("price", "cost"))
        self.assertEqual(shape.tables, (("sale", ("item", "many")),))
        self.assertEqual(shape.fields_of("sale"), ("item", "many"))

    def test_equal(self):
        self.assertEqual(SALES, Shape([("sale", ["item", "many"]), ("price", ["item", "cost"])]))
        self.assertTrue(SALES == SALES)
        self.assertFalse(SALES != Shape(SALES.tables))
        self.equals_nothing_else(SALES, [
            Shape([("price", ("item", "cost")), ("sale", ("item", "many"))]),
            Shape([("sale", ("many", "item")), ("price", ("item", "cost"))]),
            Shape([("sale", ("item", "many"))]),
            Shape([("sale", ("item", "many")), ("prices", ("item", "cost"))]),
            Shape([("sale", ("item", "many")), ("price", ("item", "cost")), ("t", ("f",))]),
        ])

    def test_equal_to_nothing_else(self):
        others = [thing for thing in anything() if not isinstance(thing, Shape)]
        self.equals_nothing_else(SALES, others + [SALES.tables, list(SALES.tables)])


def store_of(many, name="sale"):
    return Store(SALES, {name: [(n, n) for n in range(many)]})


class Stores(Case):
    def wrong(self, table, at, rows, shape=SALES):
        self.raises(BadRows, [(table, at)], Store, shape, rows)

    def test_what_it_tells(self):
        store = self.leaves_alone(Store, SALES, {"price": [[1, 5], (2, 6)], "sale": ((1, 1),)})
        self.assertEqual(store.shape, SALES)
        self.assertEqual(repr(store.rows_of("sale")), "[(1, 1)]")
        self.assertEqual(repr(store.rows_of("price")), "[(1, 5), (2, 6)]")

    def test_tables_that_are_no_keys_have_no_rows(self):
        for rows in ({}, {"sale": []}, {"sale": (), "price": []}, {"price": ()}):
            store = Store(SALES, rows)
            self.assertEqual(store.rows_of("sale"), [])
            self.assertEqual(store.rows_of("price"), [])
            self.assertEqual(store, Store(SALES, {}))

    def test_equal_rows_stay(self):
        self.assertEqual(Store(SALES, {"sale": [(1, 1), (1, 1)]}).rows_of("sale"), [(1, 1), (1, 1)])

    def test_no_shape(self):
        for thing in anything():
            if not isinstance(thing, Shape):
                with self.subTest(thing=thing):
                    self.raises(BadStore, [thing], Store, thing, {})
                    self.raises(BadStore, [thing], Store, thing, None)

    def test_no_dict(self):
        for thing in anything():
            if not isinstance(thing, dict):
                with self.subTest(thing=thing):
                    self.wrong(None, -1, thing)
        self.wrong(None, -1, [("sale", [(1, 1)])])

    def test_keys_that_are_no_tables(self):
        for key in ("", "item", "sales", "Sale", None, 0, True, ("sale",), (("sale", ("item", "many")),)):
            self.wrong(None, -1, {key: []})
            self.wrong(None, -1, {key: None, "sale": None})
            self.wrong(None, -1, {"sale": [(1, 1)], "price": [(1, True)], key: []})

    def test_no_rows_of_a_table(self):
        for thing in anything():
            if not isinstance(thing, (list, tuple)):
                with self.subTest(thing=thing):
                    self.wrong("sale", -1, {"sale": thing})
                    self.wrong("price", -1, {"price": thing, "sale": [(1, 1)]})

    def test_a_thing_that_is_no_row(self):
        right = [(1, 2), [3, 4]]
        for thing in anything() + [(1,), (1, 2, 3), [], {1: 1, 2: 2}, "ab", [[1, 2]], ((1, 2), (1, 2))]:
            with self.subTest(thing=thing):
                self.wrong("sale", 0, {"sale": [thing]})
                self.wrong("sale", 0, {"sale": (thing, (1, 2), (1, 2))})
                self.wrong("sale", 1, {"sale": [(1, 2), thing, (1, 2)], "price": right})
                self.wrong("price", 2, {"price": right + [thing], "sale": right})

    def test_values(self):
        for value in (BIG, -BIG, 0, 1, -1, BIG - 1):
            self.assertEqual(Store(SALES, {"sale": [(value, 0)]}).rows_of("sale"), [(value, 0)])
        for value in (BIG + 1, -BIG - 1, 10 ** 40, True, False, None, "", "1", "a", (), [], (1,), [1], {}, SALES):
            with self.subTest(value=value):
                self.wrong("sale", 0, {"sale": [(value, 1)]})
                self.wrong("sale", 1, {"sale": [(1, 1), [1, value], (1, 1)]})
                self.wrong("price", 2, {"price": [(1, 1), (1, 1), (value, value)]})

    def test_as_many_values_as_fields(self):
        shape = Shape([("t", ("a",)), ("u", ("a", "b", "c", "d"))])
        self.assertEqual(Store(shape, {"t": [(1,)], "u": [(1, 2, 3, 4)]}).rows_of("u"), [(1, 2, 3, 4)])
        self.wrong("t", 0, {"t": [(1, 2, 3, 4)]}, shape)
        self.wrong("t", 1, {"t": [(1,), ()]}, shape)
        self.wrong("u", 0, {"u": [(1, 2, 3)]}, shape)
        self.wrong("u", 0, {"u": [(1, 2, 3, 4, 5)]}, shape)

    def test_the_first_wrong_table_and_row_are_told(self):
        self.wrong("sale", 1, {"price": None, "sale": [(1, 1), None, None]})
        self.wrong("sale", -1, {"price": [None], "sale": None})
        self.wrong("price", 0, {"price": [(1,), None], "sale": [(1, 1)]})

    def test_at_most_300_rows(self):
        self.assertEqual(len(store_of(300).rows_of("sale")), 300)
        self.assertEqual(len(Store(SALES, {"sale": [(1, 1)] * 150, "price": [(1, 1)] * 150}).rows_of("price")), 150)
        self.raises(TooMany, [], Store, SALES, {"sale": [(1, 1)] * 301})
        self.raises(TooMany, [], Store, SALES, {"sale": [(1, 1)] * 150, "price": [(1, 1)] * 151})
        self.raises(TooMany, [], Store, SALES, {"price": [(1, 1)] * 1000})

    def test_too_many_comes_behind_all_else(self):
        many = [(1, 1)] * 301
        self.raises(BadStore, [None], Store, None, {"sale": many})
        self.wrong(None, -1, {"sale": many, "x": []})
        self.wrong("sale", 301, {"sale": many + [None]})
        self.wrong("price", -1, {"sale": many, "price": 1})
        self.wrong("price", 0, {"sale": many, "price": [(1,)]})

    def test_what_was_given_may_change(self):
        row, rows = [1, 2], [(3, 4)]
        rows.append(row)
        given = {"sale": rows}
        store = Store(SALES, given)
        row[0] = 9
        rows.append((5, 6))
        given["price"] = [(7, 8)]
        self.assertEqual(store.rows_of("sale"), [(3, 4), (1, 2)])
        self.assertEqual(store.rows_of("price"), [])

    def test_what_was_returned_may_change(self):
        store = Store(SALES, {"sale": [(1, 2)]})
        store.rows_of("sale").append((3, 4))
        store.rows_of("sale")[0] = None
        store.rows_of("price").append((3, 4))
        self.assertEqual(store.rows_of("sale"), [(1, 2)])
        self.assertEqual(store, Store(SALES, {"sale": [(1, 2)]}))
        self.assertIsNot(store.rows_of("sale"), store.rows_of("sale"))

    def test_names_of_no_table(self):
        store = store_of(300)
        for thing in anything() + ["item", "prices", ["sale"], ("sale",)]:
            if thing != "sale":
                with self.subTest(thing=thing):
                    self.raises(BadName, [thing], store.rows_of, thing)
                    self.raises(BadName, [thing], store.with_row, thing, (1, 1))
                    self.raises(BadName, [thing], store.with_row, thing, None)
                    self.raises(BadName, [thing], store.without_row, thing, 0)
                    self.raises(BadName, [thing], store.without_row, thing, None)


class ChangedStores(Case):
    def test_with_row(self):
        store = Store(SALES, {"sale": [(1, 1)], "price": [(2, 2)]})
        more = self.leaves_alone(store.with_row, "sale", [0, 3])
        self.assertEqual(more, Store(SALES, {"sale": [(1, 1), (0, 3)], "price": [(2, 2)]}))
        self.assertEqual(repr(more.rows_of("sale")), "[(1, 1), (0, 3)]")
        self.assertEqual(more.shape, SALES)
        self.assertEqual(more.with_row("price", (BIG, -BIG)).rows_of("price"), [(2, 2), (BIG, -BIG)])

    def test_with_the_first_row_of_a_table(self):
        self.assertEqual(Store(SALES, {}).with_row("price", (1, 2)), Store(SALES, {"price": [(1, 2)]}))

    def test_with_a_wrong_row(self):
        for many in (0, 1, 7, 299, 300):
            store = store_of(many)
            wrong = [(1, 2, 3), (1,), (1, True), (None, 1), (BIG + 1, 1), [1, -BIG - 1], {1: 1, 2: 2}]
            for thing in anything() + wrong:
                with self.subTest(many=many, thing=thing):
                    self.raises(BadRows, [("sale", many)], store.with_row, "sale", thing)
                    self.raises(BadRows, [("price", 0)], store.with_row, "price", thing)

    def test_with_row_beyond_300(self):
        store = store_of(299).with_row("sale", (5, 5))
        self.assertEqual(len(store.rows_of("sale")), 300)
        self.raises(TooMany, [], store.with_row, "sale", (1, 1))
        self.raises(TooMany, [], store.with_row, "price", [1, 1])
        self.assertEqual(len(store.without_row("sale", 3).with_row("price", (1, 1)).rows_of("sale")), 299)

    def test_without_row(self):
        store = Store(SALES, {"sale": [(1, 1), (2, 2), (1, 1)], "price": [(4, 4)]})
        for at, left in ((0, [(2, 2), (1, 1)]), (1, [(1, 1), (1, 1)]), (2, [(1, 1), (2, 2)])):
            less = store.without_row("sale", at)
            self.assertEqual(less, Store(SALES, {"sale": left, "price": [(4, 4)]}))
            self.assertEqual(repr(less.rows_of("sale")), repr(left))
        self.assertEqual(store.without_row("price", 0).rows_of("price"), [])

    def test_without_a_row_that_is_not_there(self):
        store = Store(SALES, {"sale": [(1, 1), (2, 2), (3, 3)]})
        for at in anything() + [3, 4, -1, -3, -4, True, False, "0", (0,), [0]]:
            if at.__class__ is not int or not 0 <= at < 3:
                with self.subTest(at=at):
                    self.raises(BadIndex, [at], store.without_row, "sale", at)
        for at in (0, 1, -1, None):
            self.raises(BadIndex, [at], store.without_row, "price", at)

    def test_no_store_ever_changes(self):
        store = Store(SALES, {"sale": [(1, 1), (2, 2)]})
        row = [3, 3]
        more = store.with_row("sale", row)
        row.append(1)
        store.without_row("sale", 0)
        for call, name, thing in ((store.with_row, "sale", None), (store.without_row, "sale", 9)):
            self.assertRaises(ValueError, call, name, thing)
        self.assertEqual(store.rows_of("sale"), [(1, 1), (2, 2)])
        self.assertEqual(store.rows_of("price"), [])
        self.assertEqual(more.rows_of("sale"), [(1, 1), (2, 2), (3, 3)])

    def test_equal(self):
        store = Store(SALES, {"sale": [(1, 1), (2, 2)]})
        self.assertEqual(store, Store(Shape(list(SALES.tables)), {"price": [], "sale": ([1, 1], [2, 2])}))
        self.assertFalse(store != Store(SALES, {"sale": [(1, 1), (2, 2)]}))
        turned = Shape([SALES.tables[1], SALES.tables[0]])
        self.equals_nothing_else(store, [
            Store(SALES, {"sale": [(2, 2), (1, 1)]}),
            Store(SALES, {"sale": [(1, 1)]}),
            Store(SALES, {"sale": [(1, 1), (2, 2), (2, 2)]}),
            Store(SALES, {"price": [(1, 1), (2, 2)]}),
            Store(SALES, {"sale": [(1, 1), (2, 2)], "price": [(0, 0)]}),
            Store(turned, {"sale": [(1, 1), (2, 2)]}),
        ])
        self.equals_nothing_else(Store(SALES, {}), [Store(turned, {})])

    def test_equal_to_nothing_else(self):
        store = Store(SALES, {"sale": [(1, 1)]})
        self.equals_nothing_else(store, anything() + [{"sale": [(1, 1)]}, [(1, 1)], (SALES, {"sale": [(1, 1)]})])


class Interface(unittest.TestCase):
    def test_names_and_arguments(self):
        for owner, name, arguments in (
            (Shape, "__init__", ["self", "tables"]), (Shape, "fields_of", ["self", "name"]),
            (Store, "__init__", ["self", "shape", "rows"]), (Store, "rows_of", ["self", "name"]),
            (Store, "with_row", ["self", "name", "row"]), (Store, "without_row", ["self", "name", "at"]),
        ):
            self.assertEqual(list(inspect.signature(vars(owner)[name]).parameters), arguments)
        for owner in (Shape, Store):
            self.assertIn("__eq__", vars(owner))
            self.assertEqual(owner.__module__, tables.__name__)


if __name__ == "__main__":
    unittest.main()
