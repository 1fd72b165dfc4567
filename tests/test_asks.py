"""Asks and the programs that they mean [32], and whether a program answers them [33]."""

import random
import unittest

import chance
import naive
from asking import drawn
from firstmet.alikes import alike
from firstmet.asks import Asks, answered, answers, plain_program
from firstmet.errors import (BadAsk, BadAsks, BadPair, BadProgram, BadStore, MetError, NotPlain, TooLong,
                             TooMany)
from firstmet.programs import Program
from firstmet.running import run
from firstmet.tables import Shape, Store
from pairs import SHAPE
from support import Case, anything, each, of, put, same, scan, times

PAID = ("paid", (("s", "t"), ("p", "u")), ((of("s", "a"), of("p", "a")),), (("item", of("s", "b")),),
        (("total", (times(2, of("s", "b"), of("p", "c")),)),))
COUNT = ("count", (("r", "x"),), (), (), (("many", (times(1),)),))


def sums(*products, name="n"):
    return ((name, products),)


def with_part(ask, at, part):
    return (*ask[:at], part, *ask[at + 1:])


class Meaning(Case):
    def means(self, asks, blocks, body):
        made = self.leaves_alone(Asks, SHAPE, asks)
        told = self.leaves_alone(plain_program, made)
        self.assertIs(told.__class__, Program)
        self.assertEqual(told, Program(SHAPE, blocks, body))
        self.assertEqual(repr(told.body), repr(Program(SHAPE, blocks, body).body))
        self.assertIs(answers(told, made), True)
        return made

    def test_one_part(self):
        self.means([COUNT], [("count", (), ("many",))], [scan("r", "x", put("count", [], [times(1)]))])

    def test_two_parts_and_a_same(self):
        self.means([PAID], [("paid", ("item",), ("total",))], [scan("s", "t", scan("p", "u", same(
            of("s", "a"), of("p", "a"), put("paid", [of("s", "b")], [times(2, of("s", "b"), of("p", "c"))]))))])

    def test_three_parts_and_four_sames(self):
        sames = [(of("q", "a"), of("r", "a")), (of("s", "d"), 3), (4, 4), (of("r", "c"), of("s", "e"))]
        keys = [("k", 7), ("l", of("s", "f")), ("m", of("q", "b"))]
        totals = [("n", [times(1), times(-3, of("q", "b"), of("q", "b"))]), ("o", []), ("p", [times(2, of("r", "c"))])]
        statement = put("all", [7, of("s", "f"), of("q", "b")], totals[0][1], [], totals[2][1])
        for left, right in sames[::-1]:
            statement = same(left, right, statement)
        self.means([("all", [("q", "t"), ("r", "u"), ("s", "w")], sames, keys, totals)],
                   [("all", ("k", "l", "m"), ("n", "o", "p"))],
                   [scan("q", "t", scan("r", "u", scan("s", "w", statement)))])

    def test_asks_of_asks(self):
        one = ("one", [("r", "t")], [], [("k", of("r", "a"))], [("n", [times(1, of("r", "b"))]), ("o", [times(1)])])
        two = ("two", [("e", "one"), ("s", "x"), ("f", "one")], [(of("e", "k"), of("s", "b"))], [("k", of("f", "k"))],
               sums(times(1, of("e", "n"), of("f", "o")), times(4, of("f", "n"), of("s", "b"), of("e", "n"))))
        last = ("last", [("e", "two")], [], [], sums(times(1, of("e", "n"))))
        body = [scan("r", "t", put("one", [of("r", "a")], [times(1, of("r", "b"))], [times(1)])),
                each("e", "one", scan("s", "x", each("f", "one", same(of("e", "k"), of("s", "b"), put(
                    "two", [of("f", "k")], two[4][0][1]))))),
                each("e", "two", put("last", [], [times(1, of("e", "n"))]))]
        blocks = [("one", ("k",), ("n", "o")), ("two", ("k",), ("n",)), ("last", (), ("n",))]
        self.assertEqual(plain_program(Asks(SHAPE, [one, two, last])), Program(SHAPE, blocks, body))
        # An ask may be read by several later ones.
        other = ("other", [("e", "one")], [], [], sums(times(1, of("e", "n"))))
        body = [*body[:2], each("e", "one", put("other", [], [times(1, of("e", "n"))])), body[2]]
        blocks = [*blocks[:2], ("other", (), ("n",)), blocks[2]]
        self.assertEqual(plain_program(Asks(SHAPE, [one, two, other, last])), Program(SHAPE, blocks, body))

    def test_six(self):
        asks = [with_part(COUNT, 0, name) for name in "abcdef"]
        self.means(asks, [(name, (), ("many",)) for name in "abcdef"],
                   [scan("r", "x", put(name, [], [times(1)])) for name in "abcdef"])

    def test_names(self):
        # A variable, a key and a sum may be called like a table, an ask, a word of a program.
        ask = ("scan", (("scan", "x"),), (), (("x", of("scan", "b")),), (("of", (times(1),)),))
        self.means([ask], [("scan", ("x",), ("of",))], [scan("scan", "x", put("scan", [of("scan", "b")], [times(1)]))])


class Objects(Case):
    def test_attributes(self):
        as_lists = ["paid", [("s", "t"), ("p", "u")], [(of("s", "a"), of("p", "a"))], [("item", of("s", "b"))],
                    [("total", [(2, [of("s", "b"), of("p", "c")])])]]
        made = self.leaves_alone(Asks, SHAPE, [tuple(as_lists)])
        self.assertEqual(made.asks, (PAID,))
        self.assertEqual(repr(made.asks), repr((PAID,)))
        self.assertEqual(made.shape, SHAPE)
        self.assertEqual(sorted(vars(made)), ["asks", "shape"])

    def test_what_was_given_may_change(self):
        given = [PAID, ("count", [("r", "x")], [], [], [("many", [(1, [])])])]
        made = Asks(SHAPE, given)
        given[1][1].append(("s", "x"))
        given[1][4][0][1].clear()
        given.pop()
        self.assertEqual(made, Asks(SHAPE, [PAID, COUNT]))

    def test_equal(self):
        made = Asks(SHAPE, [PAID, COUNT])
        again = Asks(Shape(list(SHAPE.tables)), (tuple(PAID), tuple(COUNT)))
        self.assertTrue(made == again)
        self.assertFalse(made != again)
        others = [Asks(SHAPE, [COUNT, PAID]), Asks(SHAPE, [PAID]), Asks(SHAPE, [COUNT]),
                  Asks(Shape([*SHAPE.tables[:4], ("z", ("b",))]), [PAID, COUNT]),
                  Asks(SHAPE, [PAID, with_part(COUNT, 4, (("many", (times(2),)),))])]
        self.equals_nothing_else(made, [*others, *anything(), (PAID, COUNT), made.asks, plain_program(made)])


class Wrong(Case):
    def is_wrong(self, ask, ahead=()):
        """The ask is the first wrong one, whatever comes behind it."""
        for behind in ([], [COUNT], [None], [("x", 1)]):
            asks = [*ahead, ask, *behind]
            self.raises(BadAsk, [len(ahead)], Asks, SHAPE, asks)
            self.raises(BadAsk, [len(ahead)], Asks, SHAPE, tuple(asks))

    def test_no_shape(self):
        for thing in anything():
            if not isinstance(thing, Shape):
                for asks in ([PAID], None, [], [None]):
                    self.raises(BadStore, [thing], Asks, thing, asks)

    def test_no_row(self):
        for thing in anything():
            if not isinstance(thing, (list, tuple)):
                self.raises(BadAsk, [-1], Asks, SHAPE, thing)
        seven = [with_part(COUNT, 0, name) for name in "abcdefg"]
        for thing in ([], (), seven, {0: PAID}, [None] * 7):
            self.raises(BadAsk, [-1], Asks, SHAPE, thing)

    def test_no_such_tuple(self):
        for thing in anything():
            self.is_wrong(thing)
            self.is_wrong(thing, [PAID])
            for at in range(5):
                if not (at == 0 and thing in ("a", "sale")) and not (at in (2, 3) and thing in ([], ())):
                    self.is_wrong(with_part(PAID, at, thing))
        for thing in (list(PAID), PAID[:4], (*PAID, ()), (*PAID, None)):
            self.is_wrong(thing)

    def test_parts(self):
        for thing in ([], [("s", "t"), ("p", "u"), ("q", "x"), ("r", "x")], [["s", "t"], ("p", "u")], [("s", "t", 1)],
                      [("s",), ("p", "u")], [("s", "t"), None], "st", {"s": "t"}):
            self.is_wrong(with_part(PAID, 1, thing))
        for thing in ([], ()):
            self.is_wrong(with_part(COUNT, 1, thing))
        self.is_wrong(with_part(COUNT, 4, ()))
        for v in (None, "", "abcdefghi", "A", 1, ("s",), [], True):
            self.is_wrong(with_part(COUNT, 1, [(v, "x")]))
        self.is_wrong(with_part(COUNT, 1, [("s", "x"), ("s", "x")]))
        for source in ("z", "count", "", None, 1, ["x"], ("x",), True, "paid", {}, SHAPE):
            self.is_wrong(with_part(COUNT, 1, [("r", source)]))

    def test_sources_are_asks_ahead_alone(self):
        entry = with_part(COUNT, 4, sums(times(1, of("r", "many"))))
        one = with_part(with_part(entry, 0, "later"), 1, [("r", "count")])
        self.assertEqual(len(Asks(SHAPE, [COUNT, one]).asks), 2)
        self.raises(BadAsk, [0], Asks, SHAPE, [one, COUNT])
        self.raises(BadAsk, [1], Asks, SHAPE, [COUNT, with_part(one, 1, [("r", "later")])])
        self.raises(BadAsk, [1], Asks, SHAPE, [COUNT, with_part(one, 1, [("r", "last")]), with_part(one, 0, "last")])

    def test_sames(self):
        good = (of("s", "a"), of("p", "a"))
        for thing in ([good] * 5, [[*good]], [(*good, 1)], [(1,)], [None], None, "", {}, good):
            self.is_wrong(with_part(PAID, 2, thing))
        for term in (of("q", "a"), of("s", "c"), of("s", "z"), None, True, "a", 10 ** 9 + 1, ["of", "s", "a"], ()):
            self.is_wrong(with_part(PAID, 2, [(1, term)]))
            self.is_wrong(with_part(PAID, 2, [(term, 1)]))
        self.assertEqual(Asks(SHAPE, [with_part(PAID, 2, [good] * 4)]).asks[0][2], (good,) * 4)

    def test_keys(self):
        good = ("k", of("s", "a"))
        for thing in ([good, ("l", 1), ("m", 1), ("n", 1)], [[*good]], [("k",)], [("k", 1, 2)], [None], None, {}, good,
                      [good, good], [("total", 1)], [("K", 1)], [(None, 1)], [("abcdefghi", 1)]):
            self.is_wrong(with_part(PAID, 3, thing))
        for term in (of("q", "a"), of("s", "c"), None, True, "a", 10 ** 9 + 1, ["of", "s", "a"]):
            self.is_wrong(with_part(PAID, 3, [("k", term)]))
        Asks(SHAPE, [with_part(PAID, 3, [("k", -10 ** 9)])])

    def test_sums(self):
        good = ("n", [times(1)])
        for thing in ([], [good, ("o", []), ("p", []), ("q", [])], [["n", []]], [("n",)], [("n", [], 1)], [None], None,
                      {}, good, [good, good], [("item", [])], [("N", [])], [(None, [])]):
            self.is_wrong(with_part(PAID, 4, thing))
        for products in (None, {}, "", [times(1)] * 5, [times(0)], [times(1001)], [times(True)], [[1, []]], [(1,)],
                         [times(1, of("q", "a"))], [times(1, of("s", "c"))], [times(1, 2)],
                         [times(1, *[of("s", "a")] * 4)], [times(1, ["of", "s", "a"])]):
            self.is_wrong(with_part(PAID, 4, [("n", products)]))
        Asks(SHAPE, [with_part(PAID, 4, [("n", [times(-1000, *[of("s", "a")] * 3)] * 4)])])

    def test_products_with_a_sum_of_each_part_that_is_an_ask(self):
        one = ("one", [("r", "t")], [], [("k", of("r", "a"))], [("n", []), ("o", [])])

        def two(*products):
            return ("two", [("e", "one"), ("r", "x"), ("f", "one")], [], [], sums(*products))
        for factors in ([of("e", "n"), of("f", "o")], [of("f", "o"), of("r", "b"), of("e", "o")],
                        [of("e", "n"), of("e", "n"), of("f", "n")]):
            Asks(SHAPE, [one, two(times(1, *factors), times(2, *factors))])
        for factors in ([], [of("e", "n")], [of("f", "n")], [of("e", "n"), of("f", "k")], [of("e", "n"), of("r", "b")],
                        [of("e", "n")] * 3):
            self.is_wrong(two(times(1, *factors)), [one])
            self.is_wrong(two(times(1, of("e", "n"), of("f", "n")), times(1, *factors)), [one])
        Asks(SHAPE, [one, two()])

    def test_a_sum_is_no_term(self):
        one = ("one", [("r", "t")], [], [("k", of("r", "a"))], [("n", [])])
        two = ("two", [("e", "one")], [], [("k", of("e", "k"))], [("n", [])])
        Asks(SHAPE, [one, two])
        self.is_wrong(with_part(two, 3, [("k", of("e", "n"))]), [one])
        self.is_wrong(with_part(two, 2, [(1, of("e", "n"))]), [one])

    def test_names(self):
        for name in ("t", "y", "count", "", "abcdefghi", "A", None, 1, ("n",), ["n"], True):
            self.is_wrong(with_part(COUNT, 0, name), [COUNT])
        self.raises(BadAsk, [2], Asks, SHAPE, [PAID, COUNT, PAID])

    def test_the_first_wrong_one(self):
        wrong = with_part(PAID, 4, [])
        self.raises(BadAsk, [0], Asks, SHAPE, [wrong, COUNT, None])
        self.raises(BadAsk, [1], Asks, SHAPE, [COUNT, wrong, COUNT])
        self.raises(BadAsk, [2], Asks, SHAPE, [COUNT, PAID, COUNT, wrong])

    def test_more_than_forty_statements(self):
        four = [(1, 1)] * 4

        def long(name, many=4):
            return (name, [("p", "x"), ("q", "x"), ("r", "x")], four[:many], [], sums())
        asks = [long(name) for name in "abcde"]
        self.assertEqual(len(Asks(SHAPE, asks).asks), 5)
        self.raises(BadAsk, [5], Asks, SHAPE, [*asks, long("f")])
        self.raises(BadAsk, [5], Asks, SHAPE, [*asks, COUNT])
        self.raises(BadAsk, [5], Asks, SHAPE, [*asks[:4], long("e", 3), COUNT])
        self.assertEqual(len(Asks(SHAPE, [*asks[:4], long("e", 2), COUNT]).asks), 6)


class Answers(Case):
    def setUp(self):
        self.asks = Asks(SHAPE, [PAID])
        self.plain = plain_program(self.asks)
        self.store = Store(SHAPE, {"t": [(1, 5), (2, 6), (1, 6)], "u": [(1, 2), (1, 3), (3, 1)]})

    def program(self, body, name="paid", keys=("item",), totals=("total",)):
        return Program(SHAPE, [(name, keys, totals)], body)

    def test_answered(self):
        self.assertEqual(self.leaves_alone(answered, self.asks, self.store), [((5,), (50,)), ((6,), (60,))])
        self.assertEqual(answered(self.asks, Store(SHAPE, {})), [])
        self.assertEqual(answered(Asks(SHAPE, [COUNT]), Store(SHAPE, {"x": [(1,), (1,)]})), [((), (2,))])
        answered(self.asks, self.store).clear()
        self.assertEqual(len(answered(self.asks, self.store)), 2)

    def test_no_asks(self):
        for thing in anything():
            self.raises(BadAsks, [thing], plain_program, thing)
            for store in (self.store, None):
                self.raises(BadAsks, [thing], answered, thing, store)

    def test_no_store(self):
        for thing in [*anything(), Store(Shape([("t", ("a",))]), {})]:
            self.raises(BadStore, [thing], answered, self.asks, thing)

    def test_a_long_run(self):
        rows = [(1, 1)] * 150
        self.raises(TooLong, [], answered, self.asks, Store(SHAPE, {"t": rows, "u": rows}))

    def test_programs_that_answer(self):
        paid = put("out", [of("s", "b")], [times(2, of("s", "b"), of("p", "c"))])
        join = scan("s", "t", ("seek", "p", "u", "a", of("s", "a"), (paid,)))
        self.assertIs(self.leaves_alone(answers, self.program([join], "out", ("k",), ("n",)), self.asks), True)

    def test_programs_that_do_not(self):
        def paid(many):
            return put("paid", [of("s", "b")], [times(many, of("s", "b"), of("p", "c"))])
        terms = (of("s", "a"), of("p", "a"))
        self.assertIs(answers(self.program([scan("p", "u", scan("s", "t", same(*terms, paid(2))))]), self.asks), False)
        self.assertIs(answers(self.program([scan("s", "t", scan("p", "u", same(*terms, paid(3))))]), self.asks), False)
        self.assertIs(answers(self.program([scan("s", "t", scan("p", "u", same(*terms, paid(2))))]), self.asks), True)
        more = scan("s", "t", put("paid", [of("s", "b")], []))
        self.assertIs(answers(self.program([more, *self.plain.body]), self.asks), False)

    def test_errors_of_answers(self):
        for thing in anything():
            if not isinstance(thing, Program):
                for asks in (self.asks, None):
                    self.raises(BadProgram, [thing], answers, thing, asks)
            self.raises(BadAsks, [thing], answers, self.plain, thing)
        unlike = [self.program([put("paid", [], [])], keys=()), self.program([put("paid", [1], [], [])],
                                                                            totals=("n", "o")),
                  Program(Shape([("t", ("a",))]), [("paid", ("item",), ("total",))], [put("paid", [1], [])])]
        for program in unlike:
            with self.assertRaises(BadPair) as caught:
                answers(program, self.asks)
            self.assertEqual(caught.exception.value, self.plain)
            self.raises(BadAsks, [None], answers, program, None)
        self.raises(NotPlain, [0], answers, self.program([put("paid", [1], [])]), self.asks)
        deep = put("paid", [1], [])
        for v in "cdefghi":
            deep = scan(v, "x", deep)
        self.raises(TooMany, [], answers, self.program([deep]), self.asks)


class Drawn(Case):
    def test_drawn_asks(self):
        source = random.Random(9)
        many = 0
        for _ in range(150):
            asks = drawn(source)
            program = plain_program(asks)
            for _ in range(3):
                store = chance.store(source)
                try:
                    told = answered(asks, store)
                except TooLong:
                    continue
                self.assertEqual(told, run(program, store))
                self.assertEqual(told, naive.run(program, store)[0])
                many += len(told) > 1
            try:
                self.assertIs(answers(program, asks), True)
                other = plain_program(drawn(source))
                self.assertIs(answers(other, asks), alike(other, program))
            except MetError:
                pass
        self.assertGreater(many, 50)


if __name__ == "__main__":
    unittest.main()
