"""The same sums [22]."""

import random
import unittest

import chance
import naive
from firstmet.errors import TooLong, TooMany
from firstmet.patterns import Pattern, pairing, ways
from firstmet.running import run
from firstmet.samesums import Parting, is_sums_paper, parting_sums, same_sums, sums_paper
from firstmet.sums import sum_patterns
from firstmet.tables import Shape
from pairs import HELD, Pairs, deep, made
from support import by, each, look, of, put, rise, same, scan, seek, spoiled, times


def out(*products, at=(0,)):
    return put("out", at, products)


def key_and_sum(v, key, *factors):
    """A put of one product under one field."""
    return out(times(1, *factors), at=[of(v, key)])


class Sums(Pairs):
    same = staticmethod(same_sums)
    paper = staticmethod(sums_paper)
    judge = staticmethod(is_sums_paper)
    parting = staticmethod(parting_sums)

    def differ(self, answer, another):
        sums, others = dict(answer), dict(another)
        width = len([*sums.values(), *others.values(), (0,)][0])
        nothing = (0,) * width
        return any([sums.get(key, nothing) != others.get(key, nothing) for key in [*sums, *others]])

    def are_unlike(self, one, other):
        store = super().are_unlike(one, other)
        self.assertLessEqual(sum([len(store.rows_of(table)) for table, _ in store.shape.tables]), 300)
        return store

    def is_right(self, sums, thing):
        """Whether the thing is a sums paper for these pairs of sum patterns, told in the plainest way."""
        if thing.__class__ is not tuple or len(thing) != len(sums):
            return False
        for (mine, yours), part in zip(sums, thing):
            if part.__class__ is not tuple or not all([pair.__class__ is tuple and len(pair) == 3 for pair in part]):
                return False
            for i, j, places in part:
                if i.__class__ is not int or j.__class__ is not int:
                    return False
                if not 0 <= i < len(mine) or not 0 <= j < len(yours):
                    return False
                if mine[i][0] != yours[j][0] or not naive.is_pairing(mine[i][1], yours[j][1], places):
                    return False
            if [i for i, _, _ in part] != list(range(len(mine))):
                return False
            if sorted([j for _, j, _ in part]) != list(range(len(yours))):
                return False
        return True

    def judges_all_spoiled(self, one, other):
        sums = [(sum_patterns(one, at), sum_patterns(other, at)) for at, _ in enumerate(one.blocks[-1][2])]
        for thing in spoiled(sums_paper(one, other)):
            self.assertIs(self.leaves_alone(is_sums_paper, one, other, thing), self.is_right(sums, thing), thing)


class Same(Sums):
    def test_equal_programs(self):
        program = made([scan("r", "t", key_and_sum("r", "a", of("r", "b")))])
        self.only_paper(program, program, (((0, 0, (0,)),),))

    def test_no_patterns(self):
        none = made([put("h", [1], [])], HELD)
        self.only_paper(none, made([scan("r", "t", out())]), ((),))
        self.only_paper(none, made([scan("r", "t", out(times(1), times(-1)))]), ((),))
        self.only_paper(none, made([same(1, 2, out(times(1)))]), ((),))
        self.are_unlike(none, made([out(times(1))]))

    def test_keys_that_are_not_there_have_sums_0(self):
        self.are_same(made([scan("r", "t", out(at=[of("r", "a")]))]), made([scan("r", "x", out(at=[of("r", "b")]))]))
        self.are_same(made([seek("r", "x", "b", 0, out(times(7, of("r", "b"))))]), made([out()]))

    def test_factors_turned(self):
        a, b = of("r", "a"), of("r", "b")
        self.are_same(made([scan("r", "t", out(times(2, a, b, a)))]), made([scan("r", "t", out(times(2, b, a, a)))]))
        self.are_unlike(made([scan("r", "t", out(times(2, a, b, a)))]), made([scan("r", "t", out(times(2, b, a, b)))]))

    def test_a_multiple_split_in_two(self):
        a = of("r", "a")
        one = made([scan("r", "t", out(times(5, a)))])
        self.are_same(one, made([scan("r", "t", out(times(2, a), times(3, a)))]))
        self.are_same(one, made([scan("r", "t", out(times(7, a))), scan("p", "t", out(times(-2, of("p", "a"))))]))

    def test_a_product_and_its_opposite(self):
        a, b = of("r", "a"), of("r", "b")
        self.are_same(made([scan("r", "t", out(times(5, a), times(3, b), times(-3, b)))]),
            made([scan("r", "t", out(times(5, a)))]))

    def test_loops_turned(self):
        one = made([scan("r", "t", scan("s", "u", same(of("r", "a"), of("s", "a"),
            key_and_sum("s", "c", of("r", "b")))))])
        other = made([by("s", "u", "c", seek("r", "t", "a", of("s", "a"), key_and_sum("s", "c", of("r", "b"))))])
        self.only_paper(one, other, (((0, 0, (1, 0)),),))

    def test_held_blocks_opened(self):
        fill = scan("r", "t", put("h", [of("r", "a")], [times(2, of("r", "b"))]))
        one = made([fill, scan("s", "u", look("e", "h", [of("s", "a")], out(times(3, of("e", "s"), of("s", "c")))))],
            HELD)
        other = made([scan("s", "u", seek("r", "t", "a", of("s", "a"), out(times(6, of("r", "b"), of("s", "c")))))])
        self.only_paper(one, other, (((0, 0, (0, 1)),),))
        for reader in (each("e", "h", out(times(1, of("e", "s"), of("e", "s")), at=[of("e", "g")])),
                       rise("e", "h", "g", out(times(1, of("e", "s"), of("e", "s")), at=[of("e", "g")]))):
            opened = made([scan("p", "t", seek("q", "t", "a", of("p", "a"), out(
                times(4, of("p", "b"), of("q", "b")), at=[of("q", "a")])))])
            self.are_same(made([fill, reader], HELD), opened)

    def test_patterns_in_another_order(self):
        x, y = scan("r", "x", out(times(2, of("r", "b")))), scan("r", "y", out(times(3, of("r", "b"))))
        self.only_paper(made([x, y]), made([y, x]), (((0, 1, (0,)), (1, 0, (0,))),))

    def test_several_sums(self):
        one = made([scan("r", "t", put("out", [0], [times(1, of("r", "a"))], [times(2)], [])),
            put("out", [0], [], [], [times(4)])],
                   sums=3)
        self.only_paper(one, one, (((0, 0, (0,)),), ((0, 0, (0,)),), ((0, 0, ()),)))
        for at in range(3):
            adds = [[times(1, of("r", "a"))], [times(2)], []]
            adds[at] = adds[at] + [times(1, of("r", "b"))]
            self.are_unlike(one, made([scan("r", "t", put("out", [0], *adds)), put("out", [0], [], [], [times(4)])],
                sums=3))

    def test_no_keys(self):
        one = made([scan("r", "x", put("out", [], [times(1)]))], many=0)
        self.are_same(one, one)
        self.are_unlike(one, made([put("out", [], [times(1)])], many=0))


class Unlike(Sums):
    def test_multiples(self):
        x = of("r", "b")
        for one, other in ((1, 2), (1, -1), (1000, 999)):
            self.are_unlike(made([scan("r", "x", out(times(one, x)))]), made([scan("r", "x", out(times(other, x)))]))
            self.are_unlike(made([out(times(one))]), made([out(times(other))]))

    def test_powers(self):
        x = of("r", "b")
        programs = [made([scan("r", "x", out(times(1, *[x] * many)))]) for many in range(4)]
        for one in programs:
            for other in programs:
                (self.are_same if one is other else self.are_unlike)(one, other)
        a, b = of("r", "a"), of("r", "b")
        self.are_unlike(made([scan("r", "t", out(times(1, a, a), times(1, b, b)))]),
            made([scan("r", "t", out(times(2, a, b)))]))

    def test_rows(self):
        programs = [made([deep(many, out(times(1)))]) for many in range(5)]
        for one in programs:
            for other in programs:
                if one is not other:
                    self.are_unlike(one, other)

    def test_rows_told_apart_by_numbers_alone(self):
        # Of one row each, all of these tell the same.
        two = [scan("r", "x", scan("s", "x", out(times(1)))),
            scan("r", "x", scan("s", "x", same(of("r", "b"), of("s", "b"), out(
            times(1)))))]
        self.are_unlike(made([two[0]]), made([two[1]]))
        self.are_unlike(made([scan("r", "x", out(times(1)))]), made([two[1]]))
        # Squares less threefold numbers and 2: with one row, and with two equal ones, it is 0.
        less = [scan("r", "x", out(times(-3))), out(times(2))]
        self.are_unlike(made([two[1], *less]), made([put("h", [1], [])], HELD))

    def test_values_that_would_bring_the_same(self):
        x = of("r", "b")
        # b ** 2 - 3 * b + 2 is 0 for the values 1 and 2.
        self.are_unlike(made([scan("r", "x", out(times(1, x, x), times(-3, x), times(2)))]), made([out()]))
        self.are_unlike(made([scan("r", "x", out(times(1, x, x, x), times(11, x)))]),
            made([scan("r", "x", out(times(6, x, x), times(6)))]))

    def test_symmetric_patterns(self):
        pair = [of("r", "b"), of("s", "b")]
        squares = scan("r", "x", scan("s", "x", out(times(1, pair[0], pair[0]), times(1, pair[1], pair[1]))))
        mixed = scan("r", "x", scan("s", "x", out(times(2, pair[0], pair[1]))))
        self.are_unlike(made([squares]), made([mixed]))

    def test_groups(self):
        for one, other in (("a", "b"), ("b", "a")):
            self.are_unlike(made([scan("r", "t", key_and_sum("r", one, of("r", "a")))]),
                            made([scan("r", "t", key_and_sum("r", other, of("r", "a")))]))
        self.are_unlike(made([out(times(1), at=[5])]), made([out(times(1), at=[6])]))
        self.are_unlike(made([scan("r", "x", out(times(1), at=[5]))]),
            made([scan("r", "x", out(times(1), at=[of("r", "b")]))]))

    def test_one_pattern_more(self):
        x, y = scan("r", "x", out(times(1, of("r", "b")))), scan("r", "y", out(times(1, of("r", "b"))))
        self.are_unlike(made([x]), made([x, y]))
        self.are_unlike(made([x, out(times(1))]), made([x]))

    def test_given_values(self):
        for value in range(1, 8):
            self.are_unlike(made([seek("r", "t", "a", value, out(times(1, of("r", "b"))))]),
                            made([scan("r", "t", out(times(1, of("r", "b"))))]))
            self.are_unlike(made([seek("r", "t", "a", value, out(times(1, of("r", "b"))))]),
                            made([seek("r", "t", "a", value + 1, out(times(1, of("r", "b"))))]))
        self.are_same(made([seek("r", "t", "a", 3, out(times(1, of("r", "a"))))]),
            made([seek("r", "t", "a", 3, out(times(3)))]))

    def test_chains_of_one_table(self):
        def chain(many):
            inner = out(times(1))
            for at in range(many - 1, 0, -1):
                inner = seek("abcdef"[at], "t", "a", of("abcdef"[at - 1], "b"), inner)
            return made([scan("a", "t", inner)])

        ring = made([scan("a", "t", seek("b", "t", "a", of("a", "b"), seek("c", "t", "a", of("b", "b"), same(
            of("c", "b"), of("a", "a"), out(times(1))))))])
        programs = [chain(many) for many in (1, 2, 3, 4)] + [ring]
        for one in programs:
            for other in programs:
                (self.are_same if one is other else self.are_unlike)(one, other)

    def test_blocks(self):
        fill = scan("r", "t", put("h", [of("r", "a")], [times(1, of("r", "b"))]))
        once = each("e", "h", out(times(1, of("e", "s"))))
        twice = each("e", "h", out(times(1, of("e", "s"), of("e", "s"))))
        self.are_unlike(made([fill, once], HELD), made([fill, twice], HELD))
        self.are_unlike(made([fill, twice], HELD), made([scan("r", "t", out(times(1, of("r", "b"), of("r", "b"))))]))
        self.are_same(made([fill, once], HELD), made([scan("r", "t", out(times(1, of("r", "b"))))]))


class Papers(Sums):
    def test_spoiled_papers(self):
        x, y = scan("r", "x", out(times(2, of("r", "b")))), scan("r", "y", out(times(2, of("r", "b"))))
        both = scan("r", "x", scan("s", "x", out(times(1), times(1, of("r", "b"), of("s", "b")))))
        for one, other in (([x, y], [y, x]), ([both, x], [x, both]),
            ([both, y, out(times(4))], [out(times(4)), both, y])):
            self.are_same(made(one), made(other))
            self.judges_all_spoiled(made(one), made(other))
        # Two rows that are the same but for their powers can be paired in two ways.
        self.assertIs(is_sums_paper(made([both]), made([both]), (((0, 0, (0, 1)), (1, 1, (1, 0))),)), True)
        self.assertIs(is_sums_paper(made([both]), made([both]), (((0, 0, (0, 0)), (1, 1, (1, 0))),)), False)
        self.assertIs(is_sums_paper(made([both]), made([both]), (((1, 1, (0, 1)), (0, 0, (1, 0))),)), False)
        self.assertIs(is_sums_paper(made([both]), made([both]), (((0, 1, (0, 1)), (1, 0, (1, 0))),)), False)

    def test_equal_multiples(self):
        x = of("r", "b")
        one = made([scan("r", "x", out(times(2, x))), scan("r", "y", out(times(2, x)))])
        self.only_paper(one, one, (((0, 0, (0,)), (1, 1, (0,))),))
        more = made([scan("r", "x", out(times(2, x))), scan("r", "y", out(times(3, x)))])
        for paper in ((((0, 0, (0,)), (1, 1, (0,))),), (((0, 0, (0,)),),)):
            self.assertIs(is_sums_paper(one, more, paper), False)

    def test_flags(self):
        one = made([scan("r", "x", scan("s", "y", out(times(1)))), scan("r", "x", out(times(1)))])
        other = made([scan("s", "y", scan("r", "x", out(times(1)))), scan("r", "x", out(times(1)))])
        self.only_paper(one, other, (((0, 0, (1, 0)), (1, 1, (0,))),))
        for paper in ((((0, 0, (True, 0)), (1, 1, (0,))),), (((0, 0, (1, 0)), (True, 1, (0,))),),
                      (((0, 0, (1, 0)), (1, True, (0,))),), (((0, False, (1, 0)), (1, 1, (0,))),)):
            self.assertIs(is_sums_paper(one, other, paper), False)


class Errors(Sums):
    def test_programs_and_pairs(self):
        self.has_errors_of_pairs()

    def test_too_many(self):
        seven = made([deep(7, out(times(1)))])
        six = made([deep(6, out(times(1)))])
        for one, other in ((seven, six), (six, seven), (seven, seven), (seven, made([out()])), (made([out()]), seven)):
            self.all_raise(TooMany, [], one, other)
        self.are_same(six, six)

    def test_nests_are_not_asked_for(self):
        seven = made([deep(7, out())])
        self.are_same(seven, made([out()]))
        self.are_unlike(seven, made([out(times(1))]))

    def test_too_many_in_a_later_sum(self):
        fine = made([put("out", [0], [times(1)], [])], sums=2)
        bad = made([deep(7, put("out", [0], [], [times(1)]))], sums=2)
        for one, other in ((fine, bad), (bad, fine)):
            self.all_raise(TooMany, [], one, other)


class Parted(Sums):
    def drawn(self, source, letters):
        rows = []
        for _ in range(source.choice((0, 1, 2, 3, 4, 5, 6, 6))):
            table, width = source.choice((("t", 2), ("t", 2), ("u", 2), ("x", 1)))
            rows.append((table, [source.choice(letters) for _ in range(width)]))
        unknowns = sorted({symbol for _, symbols in rows for symbol in symbols if isinstance(symbol, str)})
        powers = {unknown: source.choice((1, 2, 3, 100)) for unknown in unknowns if source.random() < 0.5}
        return Pattern(rows, [source.choice([*unknowns, 7])], powers)

    def test_drawn_patterns(self):
        """Patterns of up to six rows, with great powers and given values: the store that is told gives no sum 0."""
        source = random.Random(22)
        shape = Shape((("t", ("a", "b")), ("x", ("b",)), ("u", ("a", "c"))))
        for _ in range(400):
            letters = [*"abcdefghijkl"[:source.choice((1, 2, 3, 6, 12))], *source.choice(((), (1, 5)))]
            patterns = []
            for _ in range(source.choice((1, 2, 3, 6))):
                pattern = self.drawn(source, letters)
                if source.random() < 0.5 and patterns:
                    old = patterns[-1][1]
                    powers = {unknown: source.choice((1, 2)) for unknown, _ in old.powers}
                    pattern = Pattern(old.rows, old.group, powers)
                if all([pairing(pattern, other) is None for _, other in patterns]):
                    patterns.append((source.choice((1, -1, 2, -3)), pattern))
            store = Parting(patterns, [1, 2, 5, 7]).told_store(shape)
            self.assertLessEqual(sum([len(store.rows_of(table)) for table, _ in shape.tables]), 300)
            told = {}
            for multiple, pattern in patterns:
                found = ways(pattern, store)
                for key in found:
                    told[key] = told.get(key, 0) + multiple * found[key]
            self.assertTrue(any(told.values()), patterns)

    def test_six_rows_of_one_table(self):
        shape = Shape((("t", ("a", "b", "c", "d")),))
        inner = put("out", [], [times(1, of("x", "a"), of("y", "b"), of("z", "c")), times(1)])
        for v in "uvwxyz":
            inner = scan(v, "t", inner)
        one = made([inner], many=0, shape=shape)
        other = made([inner, inner], many=0, shape=shape)
        rows = parting_sums(one, other).rows_of("t")
        self.assertLessEqual(len(rows), 300)
        # What the six loops over the rows put, which is too long to run: the other program puts it twice.
        first, second, third = [sum([row[at] for row in rows]) for at in range(3)]
        self.assertNotEqual(first * second * third * len(rows) ** 3 + len(rows) ** 6, 0)
        self.assertIsNone(parting_sums(one, one))

    def test_drawn_programs(self):
        source = random.Random(23)
        found = []
        for _ in range(300):
            one = chance.program(source, keys=source.choice((0, 1, 2)), sums=source.choice((1, 1, 2)))
            other = chance.changed(source, chance.changed(source, one))
            if source.random() < 0.2:
                other = chance.program(source, keys=len(one.blocks[-1][1]), sums=len(one.blocks[-1][2]))
            try:
                found.append(self.hold(one, other, [chance.store(source) for _ in range(4)]))
                if found[-1] and source.random() < 0.2:
                    self.judges_all_spoiled(one, other)
            except (TooMany, TooLong):
                pass
        self.assertGreater(found.count(True), 60)
        self.assertGreater(found.count(False), 60)

    def test_what_is_told_is_told_again(self):
        one, other = made([out(times(1))]), made([scan("r", "x", out(times(1)))])
        self.assertEqual(parting_sums(one, other), parting_sums(one, other))
        self.assertNotEqual(run(one, parting_sums(one, other)), run(other, parting_sums(one, other)))


if __name__ == "__main__":
    unittest.main()
