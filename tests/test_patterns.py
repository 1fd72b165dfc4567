"""Patterns [13], their ways [14], pairings [15] and maps [19]."""

import inspect
import itertools
import random
import unittest

import naive
from firstmet import patterns
from firstmet.errors import BadPattern, BadStore, TooLong
from firstmet.patterns import Pattern, group_map, pairing, ways
from firstmet.tables import Shape, Store
from support import Case, anything

BIG = 10 ** 9
SHAPE = Shape((("t", ("a", "b")), ("u", ("c",)), ("w", ("d", "e", "f", "g"))))
STORE = Store(SHAPE, {"t": [(1, 2), (1, 3), (2, 2), (1, 2)], "u": [(1,), (2,), (5,)],
    "w": [(1, 1, 2, 2), (1, 2, 1, 2)]})
NO_ROWS = Pattern((), (), {})


def drawn(source, most=3, tables=(("t", 2), ("u", 1)), symbols=("x", "y", "z", 1, 2)):
    """A pattern that is drawn."""
    rows = []
    for _ in range(source.randint(0, most)):
        table, width = source.choice(tables)
        rows.append((table, [source.choice(symbols) for _ in range(width)]))
    unknowns = patterns.unknowns_of(rows)
    group = [source.choice([*unknowns, 1]) for _ in range(source.randint(0, 2))]
    return Pattern(rows, group, {unknown: source.choice((1, 2)) for unknown in unknowns if source.random() < 0.3})


class Made(Case):
    def wrong(self, at, rows, group=(), powers=None):
        self.raises(BadPattern, [at], Pattern, rows, group, {} if powers is None else powers)

    def test_attributes(self):
        made = self.leaves_alone(Pattern, [("t", ["y", "x"]), ("u", ("z",)), ("t", ("x", 5))], ["x", 5, "y"],
                                 {"z": 3, "y": 1})
        self.assertEqual(repr(made.rows), "(('t', ('a', 'b')), ('u', ('c',)), ('t', ('b', 5)))")
        self.assertEqual(repr(made.group), "('b', 5, 'a')")
        self.assertEqual(repr(made.powers), "(('a', 1), ('c', 3))")

    def test_no_rows(self):
        self.assertEqual(repr((NO_ROWS.rows, NO_ROWS.group, NO_ROWS.powers)), "((), (), ())")
        self.assertEqual(Pattern([], [3, 3, -4], {}).group, (3, 3, -4))

    def test_names_follow_the_rows_and_not_the_group_or_the_powers(self):
        made = Pattern([("t", ("p", "q")), ("t", ("r", "p")), ("u", ("s",))], ("s", "r", "q"),
                       {"s": 1, "r": 2, "q": 3, "p": 4})
        self.assertEqual(made.rows, (("t", ("a", "b")), ("t", ("c", "a")), ("u", ("d",))))
        self.assertEqual(made.group, ("d", "c", "b"))
        self.assertEqual(made.powers, (("a", 4), ("b", 3), ("c", 2), ("d", 1)))

    def test_twenty_four_unknowns(self):
        rows = [("w", [f"unknown {row} {at}" for at in range(4)]) for row in range(6)]
        made = Pattern(rows, ["unknown 5 3"], {"unknown 5 2": 7, "unknown 0 0": 8})
        told = [symbol for _, symbols in made.rows for symbol in symbols]
        self.assertEqual("".join(told), "abcdefghijklmnopqrstuvwx")
        self.assertEqual(made.group, ("x",))
        self.assertEqual(made.powers, (("a", 8), ("w", 7)))

    def test_odd_unknowns(self):
        for one, other in (("", "a"), ("a b", "b"), ("b", "a"), ("c", "c "), ("1", "-1"), ("\n", "\t"), ("A", "a")):
            made = Pattern([("t", (one, other)), ("t", (other, 1))], (other,), {one: 2})
            self.assertEqual(made, Pattern([("t", ("x", "y")), ("t", ("y", 1))], ("y",), {"x": 2}))

    def test_rows(self):
        for many in range(7):
            self.assertEqual(len(Pattern([("u", ("x",))] * many, (), {}).rows), many)
        self.wrong(0, [("u", ("x",))] * 7)
        for thing in anything():
            if thing not in ([], (), (("sale", ("item",)),)):
                self.wrong(0, thing)
            for rows in ([thing], [("u", ("x",)), thing], (thing, ("u", ("x",)))):
                self.wrong(0, rows)
        for row in (["u", ("x",)], ("u",), ("u", ("x",), ()), ("u", "x"), ("u", ()), ("u", "xyxy"), ("U", ("x",)),
                    ("", ("x",)), ("abcdefghi", ("x",)), (1, ("x",)), ("u", tuple("abcde")), ("u", {"x": 1})):
            self.wrong(0, [row])
        self.assertEqual(len(Pattern([("abcdefgh", tuple("abcd"))], (), {}).rows), 1)

    def test_symbols(self):
        for value in (0, -1, BIG, -BIG):
            self.assertEqual(Pattern([("u", (value,))], (value,), {}).group, (value,))
        for thing in (BIG + 1, -BIG - 1, True, False, None, ("x",), ["x"], {}, SHAPE, ()):
            self.wrong(0, [("u", (thing,))])
            self.wrong(0, [("t", ("x", thing))])
            self.wrong(1, [("u", ("x",))], ("x", thing))
            self.wrong(1, [("u", ("x",))], (thing,))

    def test_group(self):
        rows = [("t", ("x", "y"))]
        for group in ((), [], ("x",), ["y", "x"], ("x", "x", "x"), [1, "y", 1]):
            self.assertEqual(len(Pattern(rows, group, {}).group), len(group))
        for thing in anything():
            if not (isinstance(thing, (list, tuple)) and (not thing or thing in ([1], (1,)))):
                self.wrong(1, rows, thing)
        for group in ("x", ("z",), ("x", "a"), ("",), ("x", "y", "x", "y"), [1, 1, 1, 1], {"x": 1}, {"x"}):
            self.wrong(1, rows, group)
        self.wrong(1, (), ("x",))

    def test_powers(self):
        rows = [("t", ("x", "y"))]
        for power in (1, 2, 99, 100):
            self.assertEqual(Pattern(rows, (), {"y": power}).powers, (("b", power),))
        for power in (0, -1, 101, True, False, None, "1", (1,), 10 ** 40, [1]):
            self.wrong(2, rows, (), {"y": power})
            self.wrong(2, rows, (), {"x": 1, "y": power})
        for thing in anything():
            if thing != {}:
                self.raises(BadPattern, [2], Pattern, rows, (), thing)
        for unknown in ("a", "b", "", 1, None, True, ("x",), SHAPE.tables):
            self.wrong(2, rows, (), {unknown: 1})
            self.wrong(2, rows, (), {"x": 1, unknown: 1})
        self.wrong(2, [("t", (1, 2))], (), {1: 1})

    def test_which_part_is_told(self):
        rights = ([("u", ("x",))], ["x"], {"x": 1})
        wrongs = ([("u", ())], ["y"], {"y": 1})
        for wrong in itertools.product((False, True), repeat=3):
            given = [wrongs[at] if wrong[at] else rights[at] for at in range(3)]
            if any(wrong):
                self.raises(BadPattern, [wrong.index(True)], Pattern, *given)
            else:
                Pattern(*given)
        self.raises(BadPattern, [0], Pattern, None, None, None)
        self.raises(BadPattern, [1], Pattern, (), None, None)
        self.raises(BadPattern, [2], Pattern, (), (), None)

    def test_what_is_given_may_be_changed(self):
        symbols, rows, group, powers = ["x", "y"], [], ["x"], {"x": 1}
        rows.append(("t", symbols))
        made = Pattern(rows, group, powers)
        symbols[0] = "z"
        rows.clear()
        group.append("y")
        powers["y"] = 4
        self.assertEqual(made, Pattern([("t", ("x", "y"))], ("x",), {"x": 1}))

    def test_equal(self):
        one = Pattern([("t", ("x", "y"))], ("x",), {"y": 2})
        self.assertTrue(one == Pattern([("t", ["q", "p"])], ["q"], {"p": 2}))
        self.assertFalse(one != Pattern([("t", ["q", "p"])], ["q"], {"p": 2}))
        self.equals_nothing_else(one, anything() + [
            Pattern([("t", ("x", "y"))], ("y",), {"y": 2}), Pattern([("t", ("x", "y"))], ("x",), {"x": 2}),
            Pattern([("t", ("x", "y"))], ("x",), {"y": 1}), Pattern([("t", ("x", "y"))], ("x",), {}),
            Pattern([("t", ("x", 1))], ("x",), {}), Pattern([("w", ("x", "y"))], ("x",), {"y": 2}),
            Pattern([("t", ("x", "y")), ("u", ("x",))], ("x",), {"y": 2}), (one.rows, one.group, one.powers), NO_ROWS])
        self.assertFalse(Pattern([("t", ("x", "y")), ("u", ("x",))], (), {}) ==
                         Pattern([("u", ("x",)), ("t", ("x", "y"))], (), {}))

    def test_parameters(self):
        self.assertEqual(list(inspect.signature(Pattern).parameters), ["rows", "group", "powers"])


class WaysThrough(Case):
    def told(self, rows, group=(), powers=None, store=STORE):
        pattern = Pattern(rows, group, {} if powers is None else powers)
        found = self.leaves_alone(ways, pattern, store)
        self.assertEqual(found, naive.ways(pattern, store))
        return found

    def test_no_rows(self):
        self.assertEqual(self.told([]), {(): 1})
        self.assertEqual(self.told([], (4, 5, 4)), {(4, 5, 4): 1})

    def test_one_row(self):
        self.assertEqual(self.told([("t", ("x", "y"))]), {(): 4})
        self.assertEqual(self.told([("t", ("x", "y"))], ("y",)), {(2,): 3, (3,): 1})
        self.assertEqual(self.told([("t", ("x", "y"))], ("y", 7, "y")), {(2, 7, 2): 3, (3, 7, 3): 1})
        self.assertEqual(self.told([("t", ("x", "y"))], ("x",), {"y": 2}), {(1,): 17, (2,): 4})

    def test_given_symbols(self):
        self.assertEqual(self.told([("t", (1, "y"))], ("y",)), {(2,): 2, (3,): 1})
        self.assertEqual(self.told([("t", (1, 2)), ("u", (5,))], (1,)), {(1,): 2})
        self.assertEqual(self.told([("t", (7, "y"))], ("y",)), {})

    def test_an_unknown_twice(self):
        self.assertEqual(self.told([("t", ("x", "x"))], ("x",)), {(2,): 1})
        self.assertEqual(self.told([("t", ("x", "y")), ("u", ("y",))], ("x",), {"y": 1}), {(1,): 4, (2,): 2})
        self.assertEqual(self.told([("t", ("x", "y")), ("t", ("y", "x"))], ("x", "y")), {(2, 2): 1})
        self.assertEqual(self.told([("w", ("x", "y", "x", "y"))], ("x", "y")), {(1, 2): 1})
        self.assertEqual(self.told([("u", ("x",)), ("w", ("x", "x", "y", "y")), ("u", ("y",))], ("y",)), {(2,): 1})

    def test_equal_rows_at_unlike_places(self):
        store = Store(SHAPE, {"u": [(3,)] * 4})
        self.assertEqual(self.told([("u", ("x",))] * 3, ("x",), {"x": 1}, store), {(3,): 192})
        self.assertEqual(self.told([("u", ("x",)), ("u", ("y",))], (), {"x": 1, "y": 1}, store), {(): 144})

    def test_empty_tables(self):
        self.assertEqual(self.told([("t", ("x", "y"))], ("x",), None, Store(SHAPE, {})), {})
        self.assertEqual(self.told([("u", ("x",)), ("t", ("x", "y"))], ("x",), None, Store(SHAPE, {"u": [(1,)]})), {})

    def test_powers(self):
        store = Store(SHAPE, {"u": [(BIG,), (-BIG,), (-1,), (0,)], "t": [(0, 5), (2, 0), (-3, -3)]})
        self.assertEqual(self.told([("u", ("x",))], ("x",), {"x": 100}, store),
                         {(BIG,): BIG ** 100, (-BIG,): BIG ** 100, (-1,): 1, (0,): 0})
        self.assertEqual(self.told([("u", ("x",))], (), {"x": 99}, store), {(): -1})
        self.assertEqual(self.told([("t", ("x", "y"))], ("y",), {"x": 3, "y": 1}, store), {(5,): 0, (0,): 0, (-3,): 81})
        self.assertEqual(self.told([("t", ("x", "y")), ("u", ("x",))], (), {"x": 2, "y": 2}, store), {(): 0})

    def test_drawn_patterns(self):
        source = random.Random(14)
        for _ in range(300):
            pattern = drawn(source)
            store = Store(SHAPE, {"t": [(source.randint(0, 3), source.randint(0, 3)) for _ in range(5)],
                                  "u": [(source.randint(-1, 3),) for _ in range(4)]})
            self.assertEqual(ways(pattern, store), naive.ways(pattern, store))

    def test_20000_ways(self):
        def store(many, other):
            return Store(SHAPE, {"u": [(at,) for at in range(many)], "t": [(7, at) for at in range(other)]})

        two = [("u", ("x",)), ("t", ("y", "z"))]
        self.assertEqual(ways(Pattern(two, (), {}), store(200, 99)), {(): 19800})
        self.raises(TooLong, [], ways, Pattern(two, (), {}), store(200, 100))
        self.raises(TooLong, [], ways, Pattern(two[::-1], (), {}), store(200, 100))
        # 100 + 100 * 199 ways, but 199 + 199 * 100 the other way round.
        self.assertEqual(ways(Pattern(two, (), {}), store(100, 199)), {(): 19900})
        self.raises(TooLong, [], ways, Pattern(two[::-1], (), {}), store(100, 199))
        three = [*two, ("u", (-1,))]
        self.assertEqual(ways(Pattern(three, (), {}), store(200, 99)), {})
        self.raises(TooLong, [], ways, Pattern([*two, ("u", (0,))], (), {}), store(200, 99))
        self.assertEqual(ways(Pattern([("u", (0,)), *two], (), {}), store(199, 99)), {(): 19701})

    def test_20001_ways(self):
        one = ("w", (1, 1, 1, 1))
        rows = [("u", ("z",)), ("t", ("x", "y"))]

        def store(many):
            return Store(SHAPE, {"u": [(1,)] * many, "t": [(1, 1)] * 99, "w": [(1, 1, 1, 1)]})

        # Each start of the rows has ways of its own: 1 + 1 + 1 + 199 + 199 * 99, and 1 + 200 + 200 * 99.
        self.assertEqual(ways(Pattern([one] * 3 + rows, (), {}), store(199)), {(): 199 * 99})
        self.assertEqual(ways(Pattern(rows, (), {}), store(200)), {(): 19800})
        self.raises(TooLong, [], ways, Pattern([one, *rows], (), {}), store(200))
        self.raises(TooLong, [], ways, Pattern([*rows, one], (), {}), store(200))

    def test_no_pattern_ahead_of_no_store(self):
        for thing in anything() + [(NO_ROWS.rows, (), ())]:
            for store in (STORE, None, 7):
                self.raises(BadPattern, [-1], ways, thing, store)

    def test_no_store(self):
        pattern = Pattern([("u", ("x",))], (), {})
        for thing in anything():
            if not isinstance(thing, Store):
                self.raises(BadStore, [thing], ways, NO_ROWS, thing)
            self.raises(BadStore, [thing], ways, pattern, thing)

    def test_a_store_that_does_not_fit(self):
        for rows in ([("v", ("x",))], [("u", ("x", "y"))], [("t", ("x",))], [("u", ("x",)), ("w", ("x", "y", "z"))],
                     [("c", ("x",))], [("t", ("x", "y")), ("t", (7, 7, 7))], [("u", (7,)), ("v", ("x",))]):
            self.raises(BadStore, [STORE], ways, Pattern(rows, (), {}), STORE)

    def test_what_is_returned_is_new(self):
        pattern = Pattern([("u", ("x",))], ("x",), {})
        ways(pattern, STORE).clear()
        self.assertEqual(ways(pattern, STORE), {(1,): 1, (2,): 1, (5,): 1})


class Pairing(Case):
    def paired(self, one, other):
        """What pairing tells, and that it is right, the other way round too."""
        found = self.leaves_alone(pairing, one, other)
        right = naive.pairings(one, other)
        self.assertEqual(found is not None, right != [])
        self.assertEqual(pairing(other, one) is not None, right != [])
        self.assertEqual({True, patterns.is_pairing(one, other, found)} if found else {True}, {True})
        for places in itertools.permutations(range(len(one.rows))):
            self.assertEqual(patterns.is_pairing(one, other, places), places in right)
        if found is not None:
            self.assertIn(found, right)
            self.assertIs(found.__class__, tuple)
        return found

    def test_no_rows(self):
        self.assertEqual(self.paired(NO_ROWS, NO_ROWS), ())
        self.assertEqual(self.paired(Pattern((), (1,), {}), Pattern((), (1,), {})), ())
        self.assertIsNone(self.paired(Pattern((), (1,), {}), Pattern((), (2,), {})))
        self.assertIsNone(self.paired(Pattern((), (1,), {}), NO_ROWS))
        self.assertIsNone(self.paired(NO_ROWS, Pattern([("u", (1,))], (), {})))

    def test_in_one_way_alone(self):
        one = Pattern([("t", ("x", "y")), ("t", ("y", "z")), ("u", ("z",))], (), {})
        other = Pattern([("u", ("z",)), ("t", ("y", "z")), ("t", ("x", "y"))], (), {})
        self.assertEqual(self.paired(one, other), (2, 1, 0))
        self.assertEqual(self.paired(one, one), (0, 1, 2))

    def test_in_several_ways(self):
        one = Pattern([("u", ("x",)), ("u", ("y",)), ("u", ("z",))], (), {})
        self.assertIsNotNone(self.paired(one, one))
        ring = [("t", (left, right)) for left, right in ("xy", "yz", "zp", "px")]
        self.assertIsNotNone(self.paired(Pattern(ring, (), {}), Pattern(ring[2:] + ring[:2], (), {})))
        self.assertIsNotNone(self.paired(Pattern([("u", ("x",))] * 2, ("x",), {}),
            Pattern([("u", ("x",))] * 2, ("x",), {})))

    def test_in_none_though_the_counts_are_alike(self):
        six = [("t", (left, right)) for left, right in ("ab", "bc", "cd", "de", "ef", "fa")]
        threes = [("t", (left, right)) for left, right in ("ab", "bc", "ca", "de", "ef", "fd")]
        self.assertIsNone(self.paired(Pattern(six, (), {}), Pattern(threes, (), {})))
        self.assertIsNone(self.paired(Pattern([("t", ("x", "y")), ("t", ("x", "z"))], (), {}),
                                      Pattern([("t", ("x", "y")), ("t", ("z", "x"))], (), {})))

    def test_each_unknown_with_one(self):
        two = Pattern([("u", ("x",)), ("u", ("y",))], (), {})
        one = Pattern([("u", ("x",)), ("u", ("x",))], (), {})
        self.assertIsNone(self.paired(two, one))
        self.assertIsNone(self.paired(Pattern([("u", ("x",))], (), {}), Pattern([("u", (1,))], (), {})))
        self.assertIsNone(self.paired(Pattern([("u", (2,))], (), {}), Pattern([("u", (1,))], (), {})))
        self.assertEqual(self.paired(Pattern([("u", (1,))], (), {}), Pattern([("u", (1,))], (), {})), (0,))

    def test_the_group_decides(self):
        rows = [("u", ("x",)), ("u", ("y",))]
        self.assertEqual(self.paired(Pattern(rows, ("x",), {}), Pattern(rows, ("y",), {})), (1, 0))
        self.assertEqual(self.paired(Pattern(rows, ("x", "y"), {}), Pattern(rows, ("y", "x"), {})), (1, 0))
        self.assertIsNone(self.paired(Pattern(rows, ("x", "x"), {}), Pattern(rows, ("y", "x"), {})))
        self.assertIsNone(self.paired(Pattern(rows, ("x",), {}), Pattern(rows, ("x", "x"), {})))
        self.assertIsNone(self.paired(Pattern(rows, ("x",), {}), Pattern(rows, (), {})))

    def test_the_powers_decide(self):
        rows = [("u", ("x",)), ("u", ("y",))]
        self.assertEqual(self.paired(Pattern(rows, (), {"x": 2}), Pattern(rows, (), {"y": 2})), (1, 0))
        self.assertEqual(self.paired(Pattern(rows, (), {"x": 1, "y": 2}), Pattern(rows, (), {"x": 2, "y": 1})), (1, 0))
        self.assertIsNone(self.paired(Pattern(rows, (), {"x": 2}), Pattern(rows, (), {"y": 3})))
        self.assertIsNone(self.paired(Pattern(rows, (), {"x": 2}), Pattern(rows, (), {})))
        self.assertIsNone(self.paired(Pattern(rows, ("x",), {"x": 2}), Pattern(rows, ("x",), {"y": 2})))

    def test_tables_decide(self):
        self.assertIsNone(self.paired(Pattern([("u", ("x",))], (), {}), Pattern([("v", ("x",))], (), {})))
        self.assertIsNone(self.paired(Pattern([("u", ("x",))], (), {}), Pattern([("u", ("x", "y"))], (), {})))

    def test_drawn_patterns(self):
        source = random.Random(15)
        many = 0
        for _ in range(600):
            one = drawn(source, most=4)
            rows = list(one.rows)
            source.shuffle(rows)
            other = Pattern(rows, one.group, dict(one.powers)) if source.random() < 0.5 else drawn(source, most=4)
            many += self.paired(one, other) is not None
        self.assertGreater(many, 200)

    def test_no_pattern(self):
        for thing in anything():
            for other in (NO_ROWS, thing, None):
                for call in (pairing, group_map):
                    self.raises(BadPattern, [-1], call, thing, other)
                    self.raises(BadPattern, [-1], call, NO_ROWS, thing)


class Maps(Case):
    def mapped(self, one, other):
        """What group_map tells, and that it is right."""
        found = self.leaves_alone(group_map, one, other)
        right = naive.maps(one.rows, one.group, other.rows, other.group)
        self.assertEqual(found is not None, right != [])
        if found is not None:
            self.assertIn(found, right)
            self.assertIs(found.__class__, tuple)
        return found

    def test_no_rows(self):
        self.assertEqual(self.mapped(NO_ROWS, Pattern([("u", ("x",))], (), {})), ())
        self.assertIsNone(self.mapped(Pattern([("u", ("x",))], (), {}), NO_ROWS))
        self.assertEqual(self.mapped(Pattern((), (1,), {}), Pattern([("u", ("x",))], (1,), {})), ())
        self.assertIsNone(self.mapped(Pattern((), (1,), {}), Pattern([("u", ("x",))], ("x",), {})))

    def test_two_rows_to_one(self):
        two = Pattern([("t", ("x", "y")), ("t", ("x", "z"))], ("x",), {})
        one = Pattern([("t", ("x", "y"))], ("x",), {})
        self.assertEqual(self.mapped(two, one), (0, 0))
        self.assertIsNotNone(self.mapped(one, two))
        self.assertEqual(self.mapped(two, Pattern([("t", ("x", "x"))], ("x",), {})), (0, 0))

    def test_given_symbols_stay(self):
        given = Pattern([("t", ("x", 1))], ("x",), {})
        unknown = Pattern([("t", ("x", "y"))], ("x",), {})
        self.assertEqual(self.mapped(unknown, given), (0,))
        self.assertIsNone(self.mapped(given, unknown))
        self.assertIsNone(self.mapped(given, Pattern([("t", ("x", 2))], ("x",), {})))
        self.assertEqual(self.mapped(given, Pattern([("t", (1, 2)), ("t", (1, 1))], (1,), {})), (1,))

    def test_group_goes_over_into_group(self):
        rows = [("t", ("x", "y"))]
        self.assertIsNone(self.mapped(Pattern(rows, ("x",), {}), Pattern(rows, ("y",), {})))
        self.assertIsNone(self.mapped(Pattern(rows, ("x",), {}), Pattern(rows, (1,), {})))
        self.assertIsNone(self.mapped(Pattern(rows, (1,), {}), Pattern(rows, ("x",), {})))
        self.assertEqual(self.mapped(Pattern(rows, (1,), {}), Pattern(rows, (1,), {})), (0,))
        self.assertIsNone(self.mapped(Pattern(rows, ("x", "x"), {}), Pattern(rows, ("x", "y"), {})))
        self.assertEqual(self.mapped(Pattern(rows, ("x", "y"), {}), Pattern([("t", (3, 3))], (3, 3), {})), (0,))

    def test_groups_of_unlike_length(self):
        rows = [("t", ("x", "y"))]
        for one, other in (((), ("x",)), (("x",), ()), (("x",), ("x", "x")), (("x", "y"), ("x", "y", "x"))):
            self.assertIsNone(self.mapped(Pattern(rows, one, {}), Pattern(rows, other, {})))

    def test_powers_are_not_looked_at(self):
        rows = [("t", ("x", "y"))]
        self.assertEqual(self.mapped(Pattern(rows, (), {"x": 3}), Pattern(rows, (), {"y": 2})), (0,))

    def test_tables(self):
        one, other = Pattern([("t", ("x", "y"))], (), {}), Pattern([("v", ("x", "y"))], (), {})
        self.assertIsNone(self.mapped(one, other))
        both = Pattern([("v", ("x", "y")), ("t", ("x", "y"))], (), {})
        self.assertEqual(self.mapped(one, both), (1,))
        self.assertIsNone(self.mapped(both, one))
        self.assertIsNone(self.mapped(one, Pattern([("t", ("x", "y", "z"))], (), {})))

    def test_later_rows_may_ask_for_another_choice(self):
        path = Pattern([("t", ("x", "y")), ("t", ("y", "z")), ("t", ("z", 9))], (), {})
        other = Pattern([("t", ("p", "q")), ("t", ("r", "s")), ("t", ("s", "v")), ("t", ("v", 9))], (), {})
        self.assertEqual(self.mapped(path, other), (1, 2, 3))

    def test_drawn_patterns(self):
        source = random.Random(19)
        found = [self.mapped(drawn(source), drawn(source)) is not None for _ in range(1500)]
        self.assertGreater(found.count(True), 100)
        self.assertGreater(found.count(False), 100)


if __name__ == "__main__":
    unittest.main()
