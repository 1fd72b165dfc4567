"""The same order [26], [27], with plain nests [23], words that decide [24] and nests that stay [25]."""

import random
import unittest

import chance
from firstmet.errors import NotPlain, TooMany
from firstmet.running import run
from firstmet.sameorder import is_order_paper, order_paper, parting_order, same_order
from firstmet.tables import Shape
from pairs import HELD, Pairs, deep, made, out
from support import by, each, look, of, put, rise, same, scan, seek, times

SUM = [times(1, of("e", "s"))]
T = scan("r", "t", out(of("r", "a")))
X = scan("r", "x", out(of("r", "b")))
Y = scan("r", "y", out(of("r", "b")))


def of_e(*terms):
    return out(*terms, adds=SUM)


def hold(*fields):
    """A block with the rows of t under these fields."""
    return scan("r", "t", put("h", [of("r", field) for field in fields], [times(1)]))


class Order(Pairs):
    same = staticmethod(same_order)
    paper = staticmethod(order_paper)
    judge = staticmethod(is_order_paper)
    parting = staticmethod(parting_order)

    def differ(self, answer, another):
        return [key for key, _ in answer] != [key for key, _ in another]

    def are_turned(self, one, other):
        """The programs give the same keys, in unlike order."""
        store = self.are_unlike(one, other)
        self.assertEqual(sorted([key for key, _ in run(one, store)]), sorted([key for key, _ in run(other, store)]))


class OneLoop(Order):
    def test_each_kind_against_each_other(self):
        bodies = {"scan": T, "run a": by("r", "t", "a", out(of("r", "a"))),
            "run b": by("r", "t", "b", out(of("r", "a")))}
        for one in bodies:
            for other in bodies:
                if one == other:
                    self.only_paper(made([bodies[one]]), made([bodies[other]]), ((0, 0, (0,)),))
                else:
                    self.are_turned(made([bodies[one]]), made([bodies[other]]))

    def test_held_blocks(self):
        each_h, rise_h = each("e", "h", of_e(of("e", "g"))), rise("e", "h", "g", of_e(of("e", "g")))
        self.only_paper(made([hold("a"), each_h], HELD), made([T]), ((0, 0, (0,)),))
        self.only_paper(made([hold("a"), rise_h], HELD), made([by("r", "t", "a", out(of("r", "a")))]), ((0, 0, (0,)),))
        self.are_turned(made([hold("a"), each_h], HELD), made([hold("a"), rise_h], HELD))
        self.are_unlike(made([hold("a"), each_h], HELD), made([hold("b"), each_h], HELD))
        two = ("h", ("g", "i"), ("s",))
        for key in ("g", "i"):
            self.are_turned(made([hold("a", "b"), each("e", "h", of_e(of("e", "g")))], two),
                            made([hold("a", "b"), rise("e", "h", key, of_e(of("e", "g")))], two))
        self.are_same(made([hold("a", "b"), rise("e", "h", "i", of_e(of("e", "g")))], two),
                      made([by("r", "t", "b", out(of("r", "a")))]))

    def test_a_run_by_what_is_held(self):
        fill = by("r", "t", "b", put("h", [of("r", "a")], [times(1)]))
        self.are_same(made([fill, each("e", "h", of_e(of("e", "g")))], HELD),
            made([by("r", "t", "b", out(of("r", "a")))]))
        self.are_turned(made([fill, each("e", "h", of_e(of("e", "g")))], HELD), made([T]))

    def test_what_decides_nothing(self):
        # The row behind a run by the key itself decides nothing more.
        fill = by("r", "t", "a", put("h", [of("r", "a")], [times(1)]))
        self.are_same(made([fill, each("e", "h", of_e(of("e", "g")))], HELD),
                      made([hold("a"), rise("e", "h", "g", of_e(of("e", "g")))], HELD))

    def test_other_keys(self):
        self.are_unlike(made([T]), made([scan("r", "t", out(of("r", "b")))]))
        self.are_unlike(made([T]), made([scan("r", "t", seek("s", "u", "a", of("r", "a"), out(of("r", "a"))))]))
        self.are_unlike(made([X]), made([Y]))


class TwoLoops(Order):
    def both(self, first, second, *terms):
        """Both loops, one in the other, joined by a; each is scan, or a field by which the loop runs."""
        inner = same(of("r", "a"), of("s", "a"), out(*terms))
        for v, table, kind in (second, first):
            inner = scan(v, table, inner) if kind == "scan" else by(v, table, kind, inner)
        return made([inner], many=len(terms))

    def test_loops_turned(self):
        for terms in ([of("r", "a")], [of("r", "b")], [of("s", "c")], [of("r", "b"), of("s", "c")],
                      [of("r", "a"), of("r", "b"), of("s", "c")]):
            one = self.both(("r", "t", "scan"), ("s", "u", "scan"), *terms)
            other = self.both(("s", "u", "scan"), ("r", "t", "scan"), *terms)
            self.are_turned(one, other)
            self.only_paper(one, one, ((0, 0, (0, 1)),))

    def test_all_kinds_joined(self):
        made_by = {}
        for t in ("scan", "a", "b"):
            for u in ("scan", "a", "c"):
                made_by[("t", t, "u", u)] = self.both(("r", "t", t), ("s", "u", u), of("r", "b"), of("s", "c"))
                made_by[("u", u, "t", t)] = self.both(("s", "u", u), ("r", "t", t), of("r", "b"), of("s", "c"))
        alike = 0
        for one in made_by:
            for other in made_by:
                if same_order(made_by[one], made_by[other]):
                    self.are_same(made_by[one], made_by[other])
                    alike += one != other
                else:
                    self.are_turned(made_by[one], made_by[other])
        # A run by the field that joins them decides nothing in the inner loop.
        self.assertTrue(same_order(made_by[("t", "b", "u", "a")], made_by[("t", "b", "u", "scan")]))
        self.assertTrue(same_order(made_by[("t", "a", "u", "a")], made_by[("t", "a", "u", "scan")]))
        self.assertEqual(alike, 12)

    def test_the_inner_loop_may_decide_nothing(self):
        one = self.both(("r", "t", "scan"), ("s", "u", "scan"), of("r", "b"))
        for kind in ("a", "c"):
            self.are_same(one, self.both(("r", "t", "scan"), ("s", "u", kind), of("r", "b")))
        self.are_same(one, made([scan("r", "t", seek("s", "u", "a", of("r", "a"), out(of("r", "b"))))]))
        fill = scan("s", "u", put("h", [of("s", "a")], [times(1)]))
        self.are_same(one, made([fill, scan("r", "t", look("e", "h", [of("r", "a")], of_e(of("r", "b"))))], HELD))
        self.are_same(one, made([fill, scan("r", "t", each("e", "h",
            same(of("e", "g"), of("r", "a"), of_e(of("r", "b")))))], HELD))
        self.are_turned(one, made([fill, each("e", "h", seek("r", "t", "a", of("e", "g"), of_e(of("r", "b"))))], HELD))
        self.are_turned(made([fill, rise("e", "h", "g", seek("r", "t", "a", of("e", "g"), of_e(of("r", "b"))))], HELD),
                        made([fill, each("e", "h", seek("r", "t", "a", of("e", "g"), of_e(of("r", "b"))))], HELD))
        self.are_same(made([fill, rise("e", "h", "g", seek("r", "t", "a", of("e", "g"), of_e(of("r", "b"))))], HELD),
                      made([by("r", "t", "a", seek("s", "u", "a", of("r", "a"), out(of("r", "b"))))]))

    def test_the_example(self):
        shape = Shape((("sale", ("item", "many")), ("price", ("item", "cost"))))
        add = [times(1, of("s", "many"), of("p", "cost"))]
        inner = same(of("s", "item"), of("p", "item"), out(of("s", "item"), adds=add))
        plain = made([scan("s", "sale", scan("p", "price", inner))], shape=shape)
        turned = made([scan("p", "price", scan("s", "sale", inner))], shape=shape)
        held = made([scan("p", "price", put("h", [of("p", "item")], [times(1, of("p", "cost"))])),
                     scan("s", "sale", look("p", "h", [of("s", "item")], out(of("s", "item"), adds=[
                         times(1, of("s", "many"), of("p", "s"))])))], HELD, shape=shape)
        self.only_paper(plain, held, ((0, 0, (0, 1)),))
        self.are_turned(plain, turned)
        self.are_turned(held, turned)

    def test_three_loops(self):
        def chain(*order):
            inner = same(of("r", "b"), of("s", "a"), same(of("s", "c"), of("p", "d"), out(of("r", "a"), of("p", "f"))))
            tables = {"r": "t", "s": "u", "p": "w"}
            for v in order[::-1]:
                inner = scan(v, tables[v], inner)
            return made([inner], many=2)

        orders = ("rsp", "rps", "srp", "spr", "prs", "psr")
        for one in orders:
            for other in orders:
                (self.are_same if one == other else self.are_turned)(chain(*one), chain(*other))


class SeveralNests(Order):
    def test_nests_in_another_order(self):
        self.only_paper(made([X, Y]), made([X, Y]), ((0, 0, (0,)), (1, 1, (0,))))
        self.are_turned(made([X, Y]), made([Y, X]))
        self.are_unlike(made([X, Y]), made([X]))

    def test_covered_nests(self):
        narrow = scan("r", "x", seek("s", "y", "b", of("r", "b"), out(of("r", "b"))))
        self.only_paper(made([X, narrow]), made([X]), ((0, 0, (0,)),))
        self.only_paper(made([X, narrow, Y]), made([X, Y, narrow, X]), ((0, 0, (0,)), (2, 1, (0,))))
        self.only_paper(made([X, X, Y]), made([X, Y]), ((0, 0, (0,)), (2, 1, (0,))))
        self.are_turned(made([narrow, X]), made([X]))
        self.are_turned(made([narrow, X, Y]), made([narrow, Y, X]))
        self.only_paper(made([narrow, X, Y]), made([narrow, X, Y, narrow]),
            ((0, 0, (0, 1)), (1, 1, (0,)), (2, 2, (0,))))
        turned = scan("r", "y", seek("s", "x", "b", of("r", "b"), out(of("r", "b"))))
        self.are_turned(made([narrow, X, Y]), made([turned, X, Y]))

    def test_narrow_ones_ahead(self):
        first = scan("r", "x", seek("s", "y", "b", of("r", "b"), out(of("r", "b"))))
        second = scan("r", "x", seek("s", "t", "a", of("r", "b"), out(of("r", "b"))))
        self.are_turned(made([first, second, X]), made([second, first, X]))
        self.are_turned(made([first, X]), made([second, X]))
        self.are_turned(made([first, second, X]), made([first, X]))

    def test_the_second_nest_is_met_in_another_order(self):
        ascending = by("r", "y", "b", out(of("r", "b")))
        self.are_turned(made([X, Y]), made([X, ascending]))
        self.are_turned(made([ascending, X]), made([Y, X]))

    def test_no_nests(self):
        none = made([put("h", [1], [])], HELD)
        self.only_paper(none, made([same(1, 2, X)]), ())
        self.are_unlike(none, made([X]))


class GivenValues(Order):
    def test_in_rows(self):
        one = made([seek("r", "t", "a", 5, out(of("r", "b")))])
        self.only_paper(one, made([scan("r", "t", same(of("r", "a"), 5, out(of("r", "b"))))]), ((0, 0, (0,)),))
        self.are_same(one, made([by("r", "t", "a", same(of("r", "a"), 5, out(of("r", "b"))))]))
        self.are_turned(one, made([by("r", "t", "b", same(of("r", "a"), 5, out(of("r", "b"))))]))
        self.are_unlike(one, made([seek("r", "t", "a", 6, out(of("r", "b")))]))
        self.are_unlike(one, made([scan("r", "t", out(of("r", "b")))]))
        for value in (1, 2, 3, 4):
            self.are_turned(made([seek("r", "w", "d", value, out(of("r", "e"), of("r", "f")))], many=2),
                            made([by("r", "w", "f", same(value, of("r", "d"), out(of("r", "e"), of("r", "f"))))],
                                many=2))

    def test_in_keys(self):
        self.are_same(made([scan("r", "x", out(of("r", "b"), 5))], many=2),
            made([scan("r", "x", out(of("r", "b"), 5))], many=2))
        self.are_unlike(made([scan("r", "x", out(of("r", "b"), 5))], many=2),
            made([scan("r", "x", out(of("r", "b"), 6))], many=2))
        five, six = scan("r", "x", out(of("r", "b"), 5)), scan("r", "x", out(of("r", "b"), 6))
        self.are_turned(made([five, six], many=2), made([six, five], many=2))

    def test_one_nest_with_a_given_value_against_several_without(self):
        given = made([seek("r", "t", "a", 5, out(of("r", "b")))])
        several = made([scan("r", "t", out(of("r", "b"))), scan("r", "t", out(of("r", "b")))])
        self.are_unlike(given, several)


class NoKeys(Order):
    def test_it_is_the_same_keys(self):
        one = made([scan("r", "t", scan("s", "t", out()))], many=0)
        paper = self.are_same(one, made([scan("r", "t", out())], many=0))
        self.assertEqual(len(paper), 2)
        self.assertEqual(paper[0], ((0, (0,)),))
        self.are_unlike(one, made([out()], many=0))
        self.only_paper(made([out()], many=0), made([out()], many=0), (((0, ()),), ((0, ()),)))
        none = made([same(1, 2, out())], many=0)
        self.only_paper(none, none, ((), ()))

    def test_each_right_paper_is_judged_right(self):
        one = made([scan("r", "t", scan("s", "t", out()))], many=0)
        for places in ((0, 0), (0, 1), (1, 0), (1, 1)):
            self.assertIs(is_order_paper(one, one, (((0, places),), ((0, (1, 1)),))), True)
            self.assertIs(is_order_paper(one, one, (((0, places),), ((0, (1, 2)),))), False)

    def test_nothing_need_be_plain(self):
        self.are_same(made([seek("r", "x", "b", 5, out()), scan("r", "x", scan("s", "y", out()))], many=0),
                      made([scan("s", "y", scan("r", "x", out())), seek("r", "x", "b", 5, out())], many=0))


class Errors(Order):
    def test_programs_and_pairs(self):
        self.has_errors_of_pairs()

    def can_be_asked(self, program):
        return False

    def test_not_plain(self):
        wrong = scan("r", "t", scan("s", "u", out(of("r", "a"))))
        plain = made([X])
        for at in range(4):
            body = [X] * 4
            body[at] = wrong
            self.all_raise(NotPlain, [at], made(body), plain)
            self.all_raise(NotPlain, [at], plain, made(body))
            self.all_raise(NotPlain, [at], made(body), made([wrong]))
            self.all_raise(NotPlain, [3], made([X, X, X, wrong]), made(body))

    def test_each_condition(self):
        for inner in (out(5), scan("r", "t", out(5)), scan("r", "x",
            scan("s", "x", same(of("r", "b"), of("s", "b"), out(of("r", "b"))))),
                      scan("r", "x", seek("s", "y", "b", 5, out(of("r", "b")))),
                          seek("r", "x", "b", 5, out(of("r", "b")))):
            self.all_raise(NotPlain, [0], made([inner]), made([X]))
            self.all_raise(NotPlain, [1], made([X]), made([Y, inner]))

    def test_a_given_symbol_in_one_of_several(self):
        given = seek("r", "t", "a", 5, out(of("r", "b")))
        self.are_unlike(made([given]), made([X]))
        self.all_raise(NotPlain, [0], made([given, X]), made([X]))
        self.all_raise(NotPlain, [1], made([X, given]), made([X]))
        self.all_raise(NotPlain, [1], made([given]), made([X, given, given]))
        self.all_raise(NotPlain, [0], made([given, deep(2, out(1))]), made([X]))
        # Empty nests have no index, and are not among the several.
        self.are_same(made([same(1, 2, X), given]), made([given]))
        self.all_raise(NotPlain, [1], made([same(1, 2, X), X, same(1, 2, X), given]), made([X]))

    def test_too_many_is_ahead_of_not_plain(self):
        seven, wrong = made([deep(7, out(1))]), made([out(1)])
        for one, other in ((seven, wrong), (wrong, seven), (seven, made([X])), (made([X]), seven), (seven, seven)):
            self.all_raise(TooMany, [], one, other)
        self.all_raise(NotPlain, [0], made([deep(6, out(1))]), made([X]))
        self.all_raise(TooMany, [], made([deep(7, out())], many=0), made([out()], many=0))

    def test_sums_are_not_asked_for(self):
        fill = scan("r", "t", scan("s", "u", same(of("r", "a"), of("s", "a"), put("h", [of("r", "b")], [times(1)]))))
        many = made([fill, scan("p", "x", look("e", "h", [of("p", "b")], out(of("p", "b"), adds=[
            times(1, *[of("e", "s")] * 3)])))], HELD)
        self.are_same(many, made([fill, scan("p", "x", look("e", "h", [of("p", "b")], of_e(of("p", "b"))))], HELD))


class Drawn(Order):
    SHAPE = Shape((("t", ("a", "b")), ("u", ("a", "c")), ("w", ("b",)), ("x", ("c", "d", "e")), ("y", ("a",))))

    def test_drawn_programs(self):
        source = random.Random(26)
        found = []
        while len(found) < 700:
            one = chance.program(source, keys=source.choice((1, 1, 2)), tame=True, givens=source.random() < 0.3,
                shape=self.SHAPE)
            other = one
            for _ in range(source.choice((1, 2, 3, 4))):
                other = chance.changed(source, other)
            try:
                found.append(self.hold(one, other, [chance.store(source, shape=self.SHAPE) for _ in range(4)]))
            except (TooMany, NotPlain):
                pass
        self.assertGreater(found.count(True), 100)
        self.assertGreater(found.count(False), 60)

    def test_what_is_told_is_told_again(self):
        one, other = made([X, Y]), made([Y, X])
        self.assertEqual(parting_order(one, other), parting_order(one, other))
        self.assertEqual(order_paper(one, one), order_paper(one, one))


if __name__ == "__main__":
    unittest.main()
