"""Programs that are alike [28], and the example at the end of the document."""

import random
import unittest

import chance
from firstmet.alikes import alike, alike_paper, is_alike_paper, is_parting, parting
from firstmet.errors import BadPair, BadProgram, NotPlain, TooLong, TooMany
from firstmet.programs import Program
from firstmet.running import run, turns
from firstmet.samesums import sums_paper
from firstmet.sameorder import order_paper
from firstmet.tables import Shape, Store
from pairs import HELD, SHAPE, Pairs, deep, made, out
from support import SALES, anything, by, each, look, of, put, rise, same, scan, seek, times

X = scan("r", "x", out(of("r", "b"), adds=[times(1, of("r", "b"))]))
Y = scan("r", "y", out(of("r", "b"), adds=[times(1, of("r", "b"))]))


class Alikes(Pairs):
    same = staticmethod(alike)
    paper = staticmethod(alike_paper)
    judge = staticmethod(is_alike_paper)
    parting = staticmethod(parting)

    def differ(self, answer, another):
        return answer != another

    def are_unlike(self, one, other):
        store = super().are_unlike(one, other)
        self.assertIs(self.leaves_alone(is_parting, one, other, store), True)
        self.assertIs(is_parting(other, one, store), True)
        self.assertIs(is_parting(one, one, store), False)
        return store

    def are_same(self, one, other):
        self.assertIs(is_parting(one, other, Store(one.shape, {})), False)
        return super().are_same(one, other)


class Alike(Alikes):
    def test_equal_programs(self):
        self.only_paper(made([X]), made([X]), (((0, 0, (0,)),), (((0, 0, (0,)),),)))

    def test_otherwise_written(self):
        inner = out(of("r", "b"), adds=[times(3, of("s", "c"), of("r", "b"))])
        one = made([scan("r", "t", scan("s", "u", same(of("r", "a"), of("s", "a"), inner)))])
        self.are_same(one, made([scan("r", "t", seek("s", "u", "a", of("r", "a"), out(of("r", "b"), adds=[
            times(1, of("r", "b"), of("s", "c")), times(2, of("s", "c"), of("r", "b"))])))]))
        fill = scan("s", "u", put("h", [of("s", "a")], [times(1, of("s", "c"))]))
        add = [times(3, of("e", "s"), of("r", "b"))]
        self.are_same(one, made([fill, scan("r", "t", look("e", "h", [of("r", "a")], out(of("r", "b"), adds=add)))],
            HELD))
        self.are_same(one, made([fill, scan("r", "t", rise("e", "h", "g", same(of("e", "g"), of("r", "a"), out(
            of("r", "b"), adds=add))))], HELD))

    def test_order_alone(self):
        self.are_unlike(made([X, Y]), made([Y, X]))
        self.are_unlike(made([X]), made([by("r", "x", "b", out(of("r", "b"), adds=[times(1, of("r", "b"))]))]))

    def test_sums_alone(self):
        for adds in ([times(2, of("r", "b"))], [times(1)], [], [times(1, of("r", "b"), of("r", "b"))],
                     [times(1, of("r", "b")), times(1)]):
            self.are_unlike(made([X]), made([scan("r", "x", out(of("r", "b"), adds=adds))]))

    def test_keys_alone(self):
        self.are_unlike(made([scan("r", "t", out(of("r", "a")))]), made([scan("r", "t", out(of("r", "b")))]))

    def test_both(self):
        self.are_unlike(made([X, Y]), made([Y, scan("r", "x", out(of("r", "b"), adds=[times(5)]))]))

    def test_covered_nests_count_in_the_sums(self):
        narrow = scan("r", "x", seek("s", "y", "b", of("r", "b"), out(of("r", "b"), adds=[times(1)])))
        nothing = scan("r", "x", seek("s", "y", "b", of("r", "b"), out(of("r", "b"))))
        self.are_unlike(made([X, narrow]), made([X]))
        self.are_same(made([X, nothing]), made([X]))

    def test_no_keys(self):
        one = made([scan("r", "x", out(adds=[times(1)]))], many=0)
        self.only_paper(one, one, ((((0, (0,)),), ((0, (0,)),)), (((0, 0, (0,)),),)))
        self.are_unlike(one, made([scan("r", "x", out(adds=[times(1), times(1)]))], many=0))
        self.are_unlike(one, made([scan("r", "x", out(adds=[times(1)])), out()], many=0))
        self.are_same(one, made([scan("r", "x", out(adds=[times(1)])), scan("r", "x", scan("s", "x", out()))], many=0))

    def test_no_nests(self):
        none = made([put("h", [1], [])], HELD)
        self.only_paper(none, made([same(1, 2, X)]), ((), ((),)))


class Papers(Alikes):
    def test_both_parts(self):
        one, other = made([X, Y]), made([X, scan("p", "y", out(of("p", "b"), adds=[times(1, of("p", "b"))]))])
        order, sums = order_paper(one, other), sums_paper(one, other)
        self.only_paper(one, other, (order, sums))
        for thing in (order, sums, (sums, order), (order,), (sums,), (order, order), (sums, sums), (order, None),
            (None, sums),
                      (order, sums, ()), [order, sums], (list(order), sums), (order, list(sums))):
            self.assertIs(is_alike_paper(one, other, thing), False)

    def test_one_part_that_is_right(self):
        one = made([X, Y])
        order, sums = alike_paper(one, one)
        turned = made([Y, X])
        self.assertIs(is_alike_paper(one, turned, (order, sums_paper(one, turned))), False)
        more = made([X, Y, scan("r", "x", out(of("r", "b"), adds=[times(1)]))])
        self.assertIs(is_alike_paper(one, more, (order_paper(one, more), sums)), False)


class IsParting(Alikes):
    def test_stores(self):
        one, other = made([X, Y]), made([Y, X])
        apart = Store(SHAPE, {"x": [(1,)], "y": [(2,)]})
        self.assertIs(is_parting(one, other, apart), True)
        self.assertIs(is_parting(one, other, Store(Shape(list(SHAPE.tables)), {"x": [[1]], "y": [[2]]})), True)
        self.assertIs(is_parting(one, other, Store(SHAPE, {"x": [(1,)], "y": [(1,)]})), False)
        self.assertIs(is_parting(one, other, Store(SHAPE, {})), False)
        self.assertIs(is_parting(one, one, apart), False)

    def test_a_store_of_another_shape(self):
        one, other = made([X, Y]), made([Y, X])
        rows = {"x": [(1,)], "y": [(2,)]}
        for tables in (SHAPE.tables[::-1], SHAPE.tables[3:], (("z", ("b",)), *SHAPE.tables[1:])):
            self.assertIs(is_parting(one, other, Store(Shape(tables), rows)), False)

    def test_no_store(self):
        for thing in anything():
            self.assertIs(self.leaves_alone(is_parting, made([X]), made([Y]), thing), False)

    def test_a_run_that_is_too_long(self):
        long, short = made([deep(3, out(1, adds=[times(1)]))]), made([out(1)])
        for many in (26, 27, 28):
            store = Store(SHAPE, {"x": [(1,)] * many})
            self.assertIs(is_parting(long, short, store), many == 26)
            self.assertIs(is_parting(short, long, store), many == 26)
        self.assertEqual(turns(long, Store(SHAPE, {"x": [(1,)] * 26})), 26 + 26 ** 2 + 26 ** 3)

    def test_programs_of_which_alike_cannot_be_asked(self):
        wrong = made([scan("r", "x", scan("s", "y", out(of("r", "b"))))])
        seven = made([deep(7, out(1, adds=[times(1)]))])
        store = Store(SHAPE, {"x": [(1,)], "y": [(2,)]})
        self.assertIs(is_parting(wrong, seven, store), True)
        self.assertIs(is_parting(wrong, wrong, store), False)
        self.assertIs(is_parting(seven, seven, store), False)

    def test_errors(self):
        right = made([X])
        store = Store(SHAPE, {})
        for thing in anything():
            if not isinstance(thing, Program):
                for other in (right, None):
                    self.raises(BadProgram, [thing], is_parting, thing, other, store)
                self.raises(BadProgram, [thing], is_parting, right, thing, None)
        for other in (made([out(1, 1)], many=2), made([put("out", [1], [], [])], sums=2), Program(
                SALES, (("out", ("k",), ("n",)),), [out(1)])):
            for thing in (store, None, ()):
                self.raises(BadPair, [other], is_parting, right, other, thing)
                self.raises(BadPair, [right], is_parting, other, right, thing)


class Errors(Alikes):
    def test_programs_and_pairs(self):
        self.has_errors_of_pairs()

    def can_be_asked(self, program):
        return False

    def long_sums(self):
        """A plain program with a sum whose patterns are too long."""
        fill = scan("r", "t", scan("s", "u", same(of("r", "a"), of("s", "a"), put("h", [of("r", "b")], [times(1)]))))
        return made([fill, scan("p", "x", look("e", "h", [of("p", "b")], out(of("p", "b"), adds=[
            times(1, *[of("e", "s")] * 3)])))], HELD)

    def test_the_sums_are_asked_for_whatever_the_order_is(self):
        bad = self.long_sums()
        for other in (bad, made([X]), made([Y]), made([X, Y])):
            self.all_raise(TooMany, [], bad, other)
            self.all_raise(TooMany, [], other, bad)

    def test_not_plain_is_ahead_of_the_sums(self):
        bad = self.long_sums()
        wrong = made([Y, scan("r", "x", scan("s", "y", out(of("r", "b"))))])
        self.all_raise(NotPlain, [1], bad, wrong)
        self.all_raise(NotPlain, [1], wrong, bad)

    def test_too_many_rows_of_a_nest_are_ahead_of_not_plain(self):
        seven = made([deep(7, out(1))])
        wrong = made([out(1)])
        for one, other in ((seven, wrong), (wrong, seven)):
            self.all_raise(TooMany, [], one, other)
        self.all_raise(NotPlain, [0], wrong, made([X]))


class Example(Alikes):
    SHAPE = Shape((("sale", ("item", "many")), ("price", ("item", "cost"))))
    ADD = [times(1, of("s", "many"), of("p", "cost"))]

    def program(self, body, *blocks):
        return Program(self.SHAPE, (*blocks, ("paid", ("item",), ("total",))), body)

    def paid(self, adds=None):
        return put("paid", [of("s", "item")], self.ADD if adds is None else adds)

    def test_the_example(self):
        plain = self.program([scan("s", "sale", scan("p", "price",
            same(of("s", "item"), of("p", "item"), self.paid())))])
        sought = self.program([scan("s", "sale", seek("p", "price", "item", of("s", "item"), self.paid()))])
        held = self.program([
            scan("p", "price", put("held", [of("p", "item")], [times(1, of("p", "cost"))])),
            scan("s", "sale", look("p", "held", [of("s", "item")],
                self.paid([times(1, of("s", "many"), of("p", "s"))])))],
            ("held", ("item",), ("s",)))
        turned = self.program([scan("p", "price", scan("s", "sale",
            same(of("s", "item"), of("p", "item"), self.paid())))])
        for one in (plain, sought, held):
            for other in (plain, sought, held):
                self.only_paper(one, other, (((0, 0, (0, 1)),), (((0, 0, (0, 1)),),)))
            self.are_unlike(one, turned)
        store = Store(self.SHAPE, {"sale": [(1, 1), (2, 1)], "price": [(2, 1), (1, 1)]})
        self.assertIs(is_parting(plain, turned, store), True)
        self.assertEqual(run(plain, store), [((1,), (1,)), ((2,), (1,))])
        self.assertEqual(run(turned, store), [((2,), (1,)), ((1,), (1,))])
        self.assertIs(is_parting(plain, held, store), False)
        self.assertEqual([turns(one, store) for one in (plain, sought, held)], [6, 4, 6])


class Drawn(Alikes):
    def test_drawn_programs(self):
        source = random.Random(28)
        found = []
        while len(found) < 400:
            one = chance.program(source, keys=source.choice((0, 1, 1, 2)), sums=source.choice((1, 2)), tame=True,
                                 givens=source.random() < 0.3)
            other = one
            for _ in range(source.choice((1, 2, 3))):
                other = chance.changed(source, other)
            try:
                found.append(self.hold(one, other, [chance.store(source) for _ in range(4)]))
                store = parting(one, other)
                if store is not None:
                    self.assertIs(is_parting(one, other, store), True)
            except (TooMany, NotPlain, TooLong):
                pass
        self.assertGreater(found.count(True), 100)
        self.assertGreater(found.count(False), 60)

    def test_each(self):
        self.are_same(made([scan("r", "t", put("h", [of("r", "a")], [times(1)])), each("e", "h", out(
            of("e", "g"), adds=[times(1, of("e", "s"))]))], HELD),
                made([scan("r", "t", out(of("r", "a"), adds=[times(1)]))]))


if __name__ == "__main__":
    unittest.main()
