"""Sum patterns [18]."""

import random
import unittest

import chance
import naive
from firstmet.errors import BadIndex, BadProgram, TooLong, TooMany
from firstmet.patterns import Pattern, pairing, ways
from firstmet.programs import Program
from firstmet.running import run
from firstmet.sums import sum_patterns
from firstmet.tables import Shape
from support import Case, anything, by, each, look, of, put, rise, same, scan, seek, times

SHAPE = Shape((("t", ("a", "b")), ("u", ("a", "c")), ("w", ("d", "e", "f", "g")), ("x", ("b",))))
HELD = ("h", ("g",), ("s", "t", "u"))
FILL = scan("r", "t", put("h", [of("r", "a")], [times(1, of("r", "b"))],
    [times(1, of("r", "b"), of("r", "b")), times(3)],
                          [times(1), times(-1, of("r", "a"))]))


def out(*products, at=(0,)):
    return put("out", at, products)


def made(body, *blocks, many=1):
    return Program(SHAPE, (*blocks, ("out", tuple("klm"[:many]), ("n",))), body)


class Case18(Case):
    def patterns(self, body, *blocks, many=1):
        program = made(body, *blocks, many=many)
        found = self.leaves_alone(sum_patterns, program, 0)
        self.assertIs(found.__class__, list)
        again = sum_patterns(program, 0)
        found.append(None)
        self.assertEqual(sum_patterns(program, 0), again)
        return again

    def told(self, wanted, body, *blocks, many=1):
        """The wanted ones are tuples of multiple, rows, group, powers; the rows are written as in 't ab, u b7'."""
        found = self.patterns(body, *blocks, many=many)
        self.assertEqual([(multiple, written(pattern)) for multiple, pattern in found],
                         [(multiple, written(pattern_of(*parts))) for multiple, *parts in wanted])
        for part in found:
            self.assertIs(part.__class__, tuple)
            self.assertIs(part[0].__class__, int)
            self.assertIs(part[1].__class__, Pattern)

    def too_many(self, body, *blocks, at=0, many=1):
        self.raises(TooMany, [], sum_patterns, made(body, *blocks, many=many), at)


def symbol(sign):
    return int(sign) if sign.isdigit() else sign


def pattern_of(rows, group, powers):
    told = [(row.split()[0], [symbol(sign) for sign in row.split()[1]]) for row in rows.split(", ") if row]
    return Pattern(told, [symbol(sign) for sign in group], powers)


def written(pattern):
    return repr((pattern.rows, pattern.group, pattern.powers))


class Products(Case18):
    def test_no_products(self):
        self.told([], [scan("r", "t", out())])
        self.told([], [put("h", [1], [], [], [])], HELD)

    def test_put_alone(self):
        self.told([(5, "", "7", {})], [out(times(5), at=(7,))])
        self.told([(3, "", "", {})], [put("out", [], [times(5), times(-2)])], many=0)

    def test_rows_and_symbols(self):
        self.told([(2, "t ab, u bc", "c", {"a": 1, "c": 2})], [scan("r", "t", seek("s", "u", "a", of("r", "b"), out(
            times(2, of("s", "c"), of("r", "a"), of("s", "c")), at=[of("s", "c")])))])
        self.told([(1, "w aa7b", "7", {"a": 1, "b": 1})], [by("r", "w", "e", same(of("r", "d"), of("r", "e"), same(
            7, of("r", "f"), out(times(1, of("r", "e"), of("r", "g")), at=[of("r", "f")]))))])

    def test_powers_of_one_field(self):
        self.told([(1, "x a", "0", {"a": 3}), (2, "x a", "0", {"a": 2})],
                  [scan("r", "x", out(times(1, *[of("r", "b")] * 3), times(2, *[of("r", "b")] * 2)))])
        self.told([(1, "t aa", "a", {"a": 3})], [scan("r", "t", same(of("r", "a"), of("r", "b"), out(
            times(1, of("r", "b"), of("r", "a"), of("r", "b")), at=[of("r", "a")])))])

    def test_given_symbols_with_powers(self):
        self.told([(-2 * 5 ** 2, "t 5a", "0", {"a": 1})], [seek("r", "t", "a", 5, out(
            times(-2, of("r", "a"), of("r", "b"), of("r", "a"))))])
        [(multiple, pattern)] = self.patterns([seek("r", "t", "a", -5, out(times(2, *[of("r", "a")] * 3)))])
        self.assertEqual((multiple, pattern), (-250, Pattern([("t", (-5, "x"))], (0,), {})))

    def test_a_given_0_with_a_power(self):
        self.told([], [seek("r", "t", "a", 0, out(times(1, of("r", "a"))))])
        self.told([(4, "t 0a", "0", {})], [seek("r", "t", "a", 0, out(times(4)))])
        # It is gathered with others, and it is left out in the end only.
        self.told([(4, "t 0a", "0", {})], [seek("r", "t", "a", 0, out(times(1, of("r", "a")), times(4)))])

    def test_what_gives_nothing(self):
        self.told([], [same(1, 2, out(times(1)))])
        self.told([(1, "x a", "0", {})], [seek("r", "t", "a", 1, same(of("r", "a"), 2, out(times(1)))),
                                          scan("r", "x", out(times(1)))])

    def test_the_order_of_puts_and_products(self):
        body = [scan("r", "t", out(times(1, of("r", "b")), times(2, of("r", "a")))), out(times(9)),
                scan("r", "x", scan("s", "x", out(times(3, of("s", "b")))))]
        self.told([(1, "t ab", "0", {"b": 1}), (2, "t ab", "0", {"a": 1}), (9, "", "0", {}),
                   (3, "x a, x b", "0", {"b": 1})], body)

    def test_other_sums_of_the_answer(self):
        program = Program(SHAPE, (("out", (), ("n", "m", "o")),), [scan("r", "x", put(
            "out", [], [times(2)], [], [times(3, of("r", "b")), times(4)]))])
        self.assertEqual([[multiple for multiple, _ in sum_patterns(program, at)] for at in range(3)],
            [[2], [], [3, 4]])


class Gathered(Case18):
    def test_the_same_but_for_names(self):
        self.told([(5, "t ab, x b", "0", {"a": 1})], [
            scan("r", "t", seek("s", "x", "b", of("r", "b"), out(times(2, of("r", "a"))))),
            scan("s", "x", scan("r", "t", same(of("s", "b"), of("r", "b"), out(times(3, of("r", "a"))))))])

    def test_the_first_one_stays(self):
        self.told([(3, "x a, t ba", "0", {}), (1, "x a", "0", {})], [
            scan("s", "x", scan("r", "t", same(of("s", "b"), of("r", "b"), out(times(2))))),
            scan("r", "x", out(times(1))),
            scan("r", "t", seek("s", "x", "b", of("r", "b"), out(times(1))))])

    def test_multiples_that_cancel(self):
        self.told([], [scan("r", "x", out(times(2, of("r", "b")), times(-2, of("r", "b"))))])
        self.told([(1, "x a", "0", {})], [scan("r", "x", out(times(2, of("r", "b")))), scan("r", "x", out(times(1))),
                                          scan("p", "x", out(times(-2, of("p", "b"))))])
        # What has come to 0 may come back; it keeps its place.
        self.told([(7, "x a", "0", {"a": 1}), (1, "x a", "0", {})], [
            scan("r", "x", out(times(2, of("r", "b")), times(1))), scan("p", "x", out(times(-2, of("p", "b")))),
            scan("p", "x", out(times(7, of("p", "b"))))])

    def test_groups_and_powers_keep_apart(self):
        self.told([(1, "t ab", "a", {}), (1, "t ab", "b", {}), (1, "t ab", "a", {"a": 1}),
            (1, "t ab", "a", {"b": 1})], [
            scan("r", "t", out(times(1), at=[of("r", "a")])), scan("r", "t", out(times(1), at=[of("r", "b")])),
            scan("r", "t", out(times(1, of("r", "a")), times(1, of("r", "b")), at=[of("r", "a")]))])


class Entries(Case18):
    def test_each_and_rise(self):
        for reader in (each("e", "h", out(times(2, of("e", "s")), at=[of("e", "g")])),
                       rise("e", "h", "g", out(times(2, of("e", "s")), at=[of("e", "g")]))):
            self.told([(2, "t ab", "a", {"b": 1})], [FILL, reader], HELD)

    def test_a_key_as_a_factor(self):
        self.told([(1, "t ab", "0", {"a": 2, "b": 1})],
                  [FILL, each("e", "h", out(times(1, of("e", "g"), of("e", "s"), of("e", "g"))))], HELD)

    def test_look(self):
        self.told([(1, "x a, t ab", "a", {"a": 1, "b": 1})], [FILL, scan("p", "x", look("e", "h", [of("p", "b")], out(
            times(1, of("p", "b"), of("e", "s")), at=[of("e", "g")])))], HELD)
        self.told([(4 * 6, "t 6a", "6", {"a": 1})],
                  [FILL, look("e", "h", [6], out(times(4, of("e", "g"), of("e", "s")), at=[of("e", "g")]))], HELD)

    def test_the_given_values_of_a_held_block(self):
        fill = seek("r", "t", "a", 4, put("h", [of("r", "a")], [times(1, of("r", "a"), of("r", "b"))], [], []))
        self.told([(4 * 4 * 3, "t 4a, u 4b", "b", {"a": 1})],
            [fill, each("e", "h", seek("q", "u", "a", of("e", "g"), out(
            times(3, of("e", "s"), of("e", "g")), at=[of("q", "c")])))], HELD)
        self.told([], [fill, look("e", "h", [5], out(times(1, of("e", "s"))))], HELD)

    def test_powers_of_chosen_patterns_that_become_given(self):
        fill = scan("r", "t", put("h", [of("r", "a")], [times(2, of("r", "a"), of("r", "a"), of("r", "b"))], [], []))
        self.told([(2 * 3 ** 2, "t 3a", "0", {"a": 1})], [fill, look("e", "h", [3], out(times(1, of("e", "s"))))], HELD)
        self.told([], [fill, look("e", "h", [0], out(times(1, of("e", "s"))))], HELD)

    def test_one_sum_twice(self):
        self.told([(1, "t ab, t ac", "a", {"b": 1, "c": 1})],
                  [FILL, each("e", "h", out(times(1, of("e", "s"), of("e", "s")), at=[of("e", "g")]))], HELD)

    def test_the_order_of_choices(self):
        # t has (1, bb) and (3, no powers), u has (1, no powers) and (-1, a).
        self.told([(1, "t ab, t ac", "a", {"b": 2}), (-1, "t ab, t ac", "a", {"b": 2, "a": 1}),
                   (3, "t ab, t ac", "a", {}), (-3, "t ab, t ac", "a", {"a": 1})],
                  [FILL, each("e", "h", out(times(1, of("e", "t"), of("e", "u")), at=[of("e", "g")]))], HELD)
        self.told([(1, "t ab, t ac", "a", {"c": 2}), (3, "t ab, t ac", "a", {}),
                   (-1, "t ab, t ac", "a", {"a": 1, "c": 2}), (-3, "t ab, t ac", "a", {"a": 1})],
                  [FILL, each("e", "h", out(times(1, of("e", "u"), of("e", "t")), at=[of("e", "g")]))], HELD)

    def test_the_order_of_rows_follows_the_statements(self):
        # The factors of f are written first, but e is met first.
        body = [FILL, each("e", "h", scan("p", "x", each("f", "h", out(
            times(1, of("f", "s"), of("e", "s"), of("f", "t")), at=[of("f", "g")]))))]
        self.told([(1, "t ab, x c, t de, t df", "d", {"b": 1, "e": 1, "f": 2}),
                   (3, "t ab, x c, t de, t df", "d", {"b": 1, "e": 1})], body, HELD)

    def test_the_last_factor_changes_fastest_across_entries(self):
        body = [FILL, each("e", "h", each("f", "h", out(times(1, of("f", "t"), of("e", "u")), at=[of("f", "g")])))]
        self.told([(1, "t ab, t cd", "c", {"d": 2}), (-1, "t ab, t cd", "c", {"d": 2, "a": 1}),
                   (3, "t ab, t cd", "c", {}), (-3, "t ab, t cd", "c", {"a": 1})], body, HELD)

    def test_keys_and_terms_are_made_one(self):
        two = ("h", ("g", "i"), ("s", "t", "u"))
        fill = scan("r", "t", put("h", [of("r", "a"), of("r", "b")], [times(1)], [], []))
        self.told([(1, "t aa", "a", {})], [fill, each("e", "h", same(of("e", "g"), of("e", "i"), out(
            times(1, of("e", "s")), at=[of("e", "i")])))], two)
        self.told([(1, "t ab, t ab", "b", {})], [fill, each("e", "h", out(
            times(1, of("e", "s"), of("e", "s")), at=[of("e", "i")]))], two)

    def test_multiples_are_multiplied(self):
        fill = scan("r", "x", put("h", [1], [times(-2)], [times(5)], []))
        self.told([(3 * -2 * 5 * -2, "x a, x b, x c", "0", {})],
                  [fill, each("e", "h", out(times(3, of("e", "s"), of("e", "t"), of("e", "s"))))], HELD)

    def test_blocks_within_blocks(self):
        more = each("e", "h", put("o", [of("e", "g")], [times(2, of("e", "s")), times(1, of("e", "s"), of("e", "s"))]))
        self.told([(2, "t ab", "0", {"b": 1}), (1, "t ab, t ac", "0", {"b": 1, "c": 1})],
                  [FILL, more, each("f", "o", out(times(1, of("f", "v"))))], HELD, ("o", ("j",), ("v",)))
        self.told([(4, "t ab, t ac", "0", {"b": 1, "c": 1}), (4, "t ab, t ac, t ad", "0", {"b": 1, "c": 1, "d": 1}),
                   (1, "t ab, t ac, t ad, t ae", "0", {"b": 1, "c": 1, "d": 1, "e": 1})],
                  [FILL, more, each("f", "o", out(times(1, of("f", "v"), of("f", "v"))))], HELD, ("o", ("j",), ("v",)))

    def test_what_cancels_in_a_block_is_left_out_there(self):
        fill = scan("r", "t", put("h", [of("r", "a")], [times(1, of("r", "b")), times(-1, of("r", "b"))], [times(1)],
            []))
        for factors in ([of("e", "s")], [of("e", "s"), of("e", "t")], [of("e", "t"), of("e", "s")], [of("e", "u")]):
            self.told([], [fill, each("e", "h", out(times(1, *factors)))], HELD)
        self.told([(1, "t ab", "0", {})], [fill, each("e", "h", out(times(1, of("e", "t"))))], HELD)


class Limits(Case18):
    def test_six_and_seven_rows(self):
        fill = scan("r", "t", scan("q", "x", put("h", [1], [times(1, of("r", "b"))], [times(1)], [])))
        three = times(1, of("e", "s"), of("e", "t"), of("e", "s"))
        self.assertEqual(len(self.patterns([fill, each("e", "h", out(three))], HELD)[0][1].rows), 6)
        self.too_many([fill, scan("p", "x", each("e", "h", out(three)))], HELD)
        self.too_many([out(times(1)), fill, each("e", "h", scan("p", "x", out(three)))], HELD)

    def test_seven_rows_in_one_choice_of_several(self):
        fill = scan("r", "t", put("h", [1], [times(1, of("r", "b"))], [], []))
        more = scan("r", "x", scan("q", "x", each("e", "h", put("o", [1], [times(1, of("e", "s")),
                                                                          times(1, of("e", "s"), of("e", "s"))]))))
        for rows in (2, 3):
            inner = each("f", "o", out(times(1, of("f", "v"))))
            for v in "klm"[:rows]:
                inner = seek(v, "x", "b", 0, inner)
            if rows == 3:
                self.too_many([fill, more, inner], HELD, ("o", ("j",), ("v",)))
            else:
                self.assertEqual(len(self.patterns([fill, more, inner], HELD, ("o", ("j",), ("v",)))), 2)

    def test_seven_rows_that_give_nothing(self):
        fill = scan("r", "t", scan("q", "x", put("h", [1], [times(1)], [], [])))
        three = times(1, of("e", "s"), of("e", "s"), of("e", "s"))
        self.told([], [fill, look("e", "h", [2], out(three))], HELD)
        self.too_many([fill, scan("p", "x", look("e", "h", [2], out(three)))], HELD)
        self.too_many([fill, scan("p", "x", same(1, 2, each("e", "h", out(three))))], HELD)

    def test_an_empty_list_to_choose_from(self):
        fill = scan("r", "t", scan("q", "x", put("h", [1], [times(1)], [], [])))
        empty = times(1, of("e", "s"), of("e", "s"), of("e", "t"))
        inner = each("e", "h", out(empty))
        for v in ("p", "o", "n", "m", "l"):
            inner = scan(v, "x", inner)
        self.told([], [fill, inner], HELD)

    def test_seven_rows_in_a_sum_that_is_used(self):
        fill = put("h", [1], [times(1)], [times(1)], [])
        for v in "abcdef":
            fill = scan(v, "x", fill)
        more = scan("p", "x", each("e", "h", put("o", [1], [times(1, of("e", "s"))], [])))
        blocks = (HELD, ("o", ("j",), ("v", "z")))
        self.too_many([fill, more, each("f", "o", out(times(1, of("f", "v"))))], *blocks)
        # Also where the list of another factor is empty, and not where another sum alone has such a pattern.
        self.too_many([fill, more, each("f", "o", out(times(1, of("f", "z"), of("f", "v"))))], *blocks)
        self.told([], [fill, more, each("f", "o", out(times(1, of("f", "z"))))], *blocks)

    def test_the_other_sum_alone_has_too_many(self):
        fill = scan("r", "x", put("h", [1], [times(1)], [], []))
        body = [fill, scan("p", "x", each("e", "h", put("out", [1], [times(1, of("e", "s"))], [
            times(1, of("e", "s"), of("e", "s"), of("e", "s"))])))]
        for v, many in (("k", 5), ("l", 6), ("m", 7)):
            body[1] = scan(v, "x", body[1])
            program = Program(SHAPE, (HELD, ("out", ("k",), ("n", "m"))), body)
            self.assertEqual(len(sum_patterns(program, 0)[0][1].rows), many - 2)
            if many < 7:
                self.assertEqual(len(sum_patterns(program, 1)[0][1].rows), many)
            else:
                self.raises(TooMany, [], sum_patterns, program, 1)

    def fill_of_eleven(self):
        """A block whose sums have 4, 4 and 3 patterns, all of them unlike."""
        a, b, c, d = [of("r", field) for field in "defg"]
        return scan("r", "w", put("h", [1], [times(1, a), times(1, b), times(1, c), times(1, d)],
                                  [times(1, a, a), times(1, b, b), times(1, c, c), times(1, d, d)],
                                  [times(1, a, a, a), times(1, b, b, b), times(1, c, c, c)]))

    def test_sixty_and_sixty_one(self):
        many48 = times(1, of("e", "s"), of("e", "t"), of("e", "u"))
        many12 = times(1, of("e", "s"), of("e", "u"))
        sixty = [self.fill_of_eleven(), each("e", "h", out(many48, many12))]
        self.assertEqual(len(self.patterns(sixty, HELD)), 60)
        self.assertEqual(len(self.patterns([*sixty, each("e", "h", out(times(1, of("e", "u"), of("e", "s"))))],
            HELD)), 60)
        self.too_many([*sixty, out(times(1))], HELD)
        self.too_many([out(times(1)), *sixty], HELD)
        # Those that come to 0 stand in the list, too, until the end.
        self.too_many([*sixty, out(times(1), times(-1))], HELD)
        self.too_many([out(times(1), times(-1)), *sixty], HELD)
        self.too_many([*sixty, seek("r", "x", "b", 0, out(times(1, of("r", "b"))))], HELD)
        opposite = each("e", "h", out(times(-1, of("e", "s"), of("e", "t"), of("e", "u"))))
        self.assertEqual(len(self.patterns([*sixty, opposite], HELD)), 12)
        self.too_many([*sixty, opposite, out(times(1))], HELD)

    def test_sixty_one_in_a_sum_that_is_used(self):
        full = each("e", "h", put("o", [1], [times(1, of("e", "s"), of("e", "t"), of("e", "u")),
                                             times(1, of("e", "s"), of("e", "u")), times(1, of("e", "s"))],
                                                 [times(1, of("e", "u"))]))
        blocks = (HELD, ("o", ("j",), ("v", "z")))
        self.too_many([self.fill_of_eleven(), full, each("f", "o", out(times(1, of("f", "v"))))], *blocks)
        self.assertEqual(len(self.patterns([self.fill_of_eleven(), full, each("f", "o", out(times(1, of("f", "z"))))],
                                           *blocks)), 3)


class Wrong(Case18):
    def test_no_program(self):
        for thing in anything():
            if not isinstance(thing, Program):
                for at in (0, -1, None):
                    self.raises(BadProgram, [thing], sum_patterns, thing, at)

    def test_no_index(self):
        for many in (1, 2, 3):
            program = Program(SHAPE, (("out", (), tuple("nmo"[:many])),), [put("out", [], *[[]] * many)])
            for thing in anything():
                if not (thing.__class__ is int and 0 <= thing < many):
                    self.raises(BadIndex, [thing], sum_patterns, program, thing)
            self.raises(BadIndex, [many], sum_patterns, program, many)

    def test_no_index_ahead_of_too_many(self):
        fill = scan("r", "t", scan("q", "x", put("h", [1], [times(1)], [], [])))
        body = [fill, scan("p", "x", each("e", "h", out(times(1, of("e", "s"), of("e", "s"), of("e", "s")))))]
        self.too_many(body, HELD)
        self.raises(BadIndex, [1], sum_patterns, made(body, HELD), 1)


class Runs(Case):
    def test_the_sums_are_those_of_the_ways(self):
        source = random.Random(18)
        many = 0
        for _ in range(600):
            program = chance.program(source, keys=source.choice((0, 1, 2)), sums=source.choice((1, 2)))
            for at, _ in enumerate(program.blocks[-1][2]):
                try:
                    patterns = sum_patterns(program, at)
                    for place, (_, pattern) in enumerate(patterns):
                        for _, other in patterns[:place]:
                            self.assertIsNone(pairing(pattern, other))
                    store = chance.store(source)
                    many += self.hold(run(program, store), at, patterns, store)
                except (TooMany, TooLong):
                    pass
        self.assertGreater(many, 200)

    def hold(self, answer, at, patterns, store):
        """The sums of the answer are what the patterns tell; whether one is not 0."""
        told = {}
        for multiple, pattern in patterns:
            found = ways(pattern, store)
            self.assertEqual(found, naive.ways(pattern, store))
            for key in found:
                told[key] = told.get(key, 0) + multiple * found[key]
        sums = {key: sums[at] for key, sums in answer}
        for key in {**told, **sums}:
            self.assertEqual(sums.get(key, 0), told.get(key, 0))
        return any(sums.values())


if __name__ == "__main__":
    unittest.main()
