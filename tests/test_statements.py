"""The rules of statements: each kept just so and broken, as a top statement and deep within others."""

import unittest

from firstmet.errors import BadProgram
from firstmet.programs import Program
from support import SALES, Case, anything, nested_bodies
from test_tables import RIGHT_NAMES, WRONG_NAMES

BIG = 10 ** 9
BLOCKS = (("held", ("item",), ("s", "t")), ("pairs", ("a", "b"), ("n",)), ("all", (), ("m",)),
          ("never", ("k",), ("n",)), ("paid", ("item", "cost"), ("total",)))
# Top statements that put what others read.
FILL = (("put", "held", (1,), ((), ())), ("put", "pairs", (1, 2), ((),)))
FILLED = len(FILL)
PUT = ("put", "paid", (1, 2), ((),))
ALL = ("put", "all", (), ((),))
RIGHT = (
    ("scan", "r", "sale", (PUT,)),
    ("run", "r", "sale", "many", (PUT,)),
    ("seek", "r", "sale", "item", 5, (PUT,)),
    ("each", "e", "held", (PUT,)),
    ("rise", "e", "held", "item", (PUT,)),
    ("look", "e", "held", (5,), (PUT,)),
    ("same", 1, 2, (PUT,)),
    PUT,
)
WITH_BODY = RIGHT[:-1]
WITH_VARIABLE = RIGHT[:-2]
OVER_ENTRIES = RIGHT[3:6]


def changed(statement, at, part):
    """The statement with another part at this place, from behind if at is below 0."""
    parts = list(statement)
    parts[at] = part
    return tuple(parts)


def of(v, f):
    return ("of", v, f)


def places(statement):
    """Bodies in which the statement stands, with its path: alone, ahead of, between and behind others, and deep."""
    return (
        (FILL + (statement,), (FILLED,)),
        (FILL + (statement, ALL, ALL), (FILLED,)),
        (FILL + (ALL, statement, ALL), (FILLED + 1,)),
        (FILL + (("same", 1, 1, (statement,)), ALL), (FILLED, 0)),
        (FILL + (("scan", "z", "sale", (ALL, statement)),), (FILLED, 1)),
        (FILL + (("seek", "z", "price", "item", 1, [("same", 1, 2, [statement, ALL])]),), (FILLED, 0, 0)),
        (FILL + (ALL, ("run", "x", "sale", "many", [("seek", "y", "price", "item", 1, [("same", 1, 2, [
            ("scan", "z", "sale", [ALL, statement])])])])), (FILLED + 1, 0, 0, 0, 1)),
    )


class Placed(Case):
    def right(self, body, blocks=BLOCKS):
        return self.leaves_alone(Program, SALES, blocks, body)

    def wrong(self, path, body, blocks=BLOCKS):
        self.raises(BadProgram, [path], Program, SALES, blocks, body)

    def right_everywhere(self, statement):
        for body, _ in places(statement):
            with self.subTest(body=body):
                self.right(body)

    def wrong_everywhere(self, statement, inner=()):
        """The statement is wrong, or in it the one with this path."""
        for body, path in places(statement):
            with self.subTest(body=body):
                self.wrong(path + inner, body)


class Form(Placed):
    def test_each_kind(self):
        for statement in RIGHT:
            self.right_everywhere(statement)

    def test_no_statement(self):
        for thing in anything():
            if thing != nested_bodies(60):
                self.wrong_everywhere(thing)

    def test_a_list_in_place_of_a_statement(self):
        for statement in RIGHT:
            self.wrong_everywhere(list(statement))

    def test_parts_too_few_or_too_many(self):
        for statement in RIGHT:
            for at in range(len(statement)):
                self.wrong_everywhere(statement[:at] + statement[at + 1:])
                self.wrong_everywhere(statement[:at] + (statement[at],) + statement[at:])
            self.wrong_everywhere(statement + ((PUT,),))
            self.wrong_everywhere(())

    def test_other_kinds(self):
        kinds = [statement[0] for statement in RIGHT]
        for statement in RIGHT:
            for kind in anything() + ["Scan", "scans", "scan ", "of", "end", "drop", "fuse"]:
                self.wrong_everywhere(changed(statement, 0, kind))
            for kind in kinds:
                if kind != statement[0] and {kind, statement[0]} != {"scan", "each"}:
                    self.wrong_everywhere(changed(statement, 0, kind))
        self.wrong_everywhere(("each", "r", "sale", (PUT,)))
        self.wrong_everywhere(("scan", "e", "held", (PUT,)))

    def test_bodies(self):
        for statement in WITH_BODY:
            for thing in anything() + [[None] * 9, (PUT,) * 9, {0: PUT}]:
                if isinstance(thing, (list, tuple)) and 1 <= len(thing) <= 8:
                    if thing not in (nested_bodies(60), (nested_bodies(60),)):
                        self.wrong_everywhere(changed(statement, -1, thing), (0,))
                else:
                    self.wrong_everywhere(changed(statement, -1, thing))
            self.right_everywhere(changed(statement, -1, [PUT]))
            # Of 8 puts of one block it is the second one that is wrong, of 9 things the body is.
            self.wrong_everywhere(changed(statement, -1, (PUT,) * 8), (1,))
            self.wrong_everywhere(changed(statement, -1, (None,) * 8), (0,))

    def test_a_body_of_six_and_of_eight(self):
        blocks = [(name, (), ("s",)) for name in "abcdef"]
        puts = tuple([("put", name, (), ((),)) for name in "abcdef"])
        for statement in WITH_BODY:
            if statement not in OVER_ENTRIES:
                self.right([changed(statement, -1, puts)], blocks)
                self.wrong((0, 6), [changed(statement, -1, puts + (None, None))], blocks)
                self.wrong((0,), [changed(statement, -1, puts + (None, None, None))], blocks)

    def test_variables(self):
        for statement in WITH_VARIABLE:
            for name in RIGHT_NAMES + ["item", "held", "price", "of", "put"]:
                if name != "z":
                    self.right_everywhere(changed(statement, 1, name))
            for thing in WRONG_NAMES + anything():
                if thing not in ("a", "sale"):
                    self.wrong_everywhere(changed(statement, 1, thing))

    def test_a_variable_around_again(self):
        for outer in WITH_VARIABLE:
            for inner in WITH_VARIABLE:
                again = changed(inner, 1, outer[1])
                self.wrong_everywhere(changed(outer, -1, (again,)), (0,))
                self.wrong_everywhere(changed(outer, -1, [("same", 1, 1, [again])]), (0, 0))
                self.wrong_everywhere(changed(outer, -1, [("scan", "q", "sale", [again])]), (0, 0))
                self.right_everywhere(changed(outer, -1, [changed(inner, 1, "q")]))

    def test_a_variable_again_behind(self):
        both = ("same", 1, 1, [("scan", "r", "sale", (ALL,)), ("scan", "r", "price", (PUT,))])
        self.right(FILL + (both, ("scan", "r", "sale", [PUT])))

    def test_tables_and_blocks(self):
        for statement in WITH_VARIABLE:
            right = "held" if statement in OVER_ENTRIES else "sale"
            for thing in anything() + ["item", "held", "never", "sales", "", ["sale"], ("held",), "r", "e", "s"]:
                if thing != right:
                    self.wrong_everywhere(changed(statement, 2, thing))
        for thing in anything() + ["sale", "held ", "item", "total", ["paid"], ("paid",)]:
            self.wrong_everywhere(changed(PUT, 1, thing))

    def test_fields_and_keys(self):
        for field in ("item", "many"):
            self.right_everywhere(("run", "r", "sale", field, (PUT,)))
            self.right_everywhere(("seek", "r", "sale", field, 1, (PUT,)))
        for key in ("a", "b"):
            self.right_everywhere(("rise", "e", "pairs", key, (PUT,)))
        for thing in anything() + ["cost", "s", "items", ("item",), ["item"], "sale", "k"]:
            self.wrong_everywhere(("run", "r", "sale", thing, (PUT,)))
            self.wrong_everywhere(("seek", "r", "sale", thing, 1, (PUT,)))
            self.wrong_everywhere(("rise", "e", "held", thing, (PUT,)))
        for thing in ("s", "t", "a", "total", "many", 0):
            self.wrong_everywhere(("rise", "e", "held", thing, (PUT,)))
        for thing in ("item", "cost"):
            self.right_everywhere(("run", "r", "price", thing, (PUT,)))


class Terms(Placed):
    def around(self, statement):
        """Statements around which r stands for a row and e for an entry."""
        return ("scan", "r", "sale", (("each", "e", "held", (statement,)),))

    def holders(self, term):
        """Statements of each kind with this term, at each place where one may stand."""
        return [
            ("seek", "v", "price", "item", term, (PUT,)), ("look", "v", "held", (term,), (PUT,)),
            ("look", "v", "pairs", [term, 1], (PUT,)), ("look", "v", "pairs", (1, term), (PUT,)),
            ("same", term, 1, (PUT,)), ("same", 1, term, (PUT,)),
            ("put", "paid", (term, 2), ((),)), ("put", "paid", [1, term], ((),)),
        ]

    def test_right_terms(self):
        for term in (0, 1, -1, BIG, -BIG, of("r", "item"), of("r", "many"), of("e", "item")):
            for statement in self.holders(term):
                self.right_everywhere(self.around(statement))
                if term.__class__ is int:
                    self.right_everywhere(statement)

    def test_wrong_terms(self):
        wrong = [
            True, False, None, "a", "1", BIG + 1, -BIG - 1, (), [], [1], (1,), {}, ("of",), ("of", "r"), SALES,
            ("of", "r", "item", 1), ["of", "r", "item"], ("off", "r", "item"), ("Of", "r", "item"), (None, "r", "item"),
            (["of"], "r", "item"), of(["r"], "item"), of("r", ["item"]), of({}, "item"), of("r", {}),
            of(("r",), "item"),
            of("", "item"), of("q", "item"), of("sale", "item"), of("held", "item"), of("r", "cost"), of("r", ""),
            of("r", "s"), of("e", "s"), of("e", "t"), of("e", "many"), of("r", None), of(None, "item"), of("r", 0),
            of("v", "item"), of("v", "cost"), of("v", "a"), (1, ()), (1, (of("r", "item"),)),
        ]
        for term in wrong + anything():
            if term.__class__ is int and -BIG <= term <= BIG or term == of("r", "item"):
                continue
            for statement in self.holders(term):
                with self.subTest(term=term):
                    self.wrong((FILLED, 0, 0), FILL + (self.around(statement),))
                    self.wrong((FILLED, 0, 0, 0), FILL + (("same", 1, 1, (self.around(statement),)),))

    def test_terms_of_variables_that_do_not_stand_around(self):
        for term in (of("r", "item"), of("e", "item")):
            for statement in self.holders(term):
                self.wrong_everywhere(statement)
                self.wrong((FILLED + 1,), FILL + (self.around(ALL), statement))
                self.wrong((FILLED, 1), FILL + (("same", 1, 1, (self.around(ALL), statement)),))

    def test_the_own_variable_stands_around_its_body_only(self):
        for statement, field in zip(WITH_VARIABLE, ("item", "many", "many", "item", "item", "item")):
            term = of(statement[1], field)
            self.right_everywhere(changed(statement, -1, [("same", term, term, [("put", "paid", (term, 1), ((),))])]))
        self.wrong_everywhere(("seek", "r", "sale", "item", of("r", "item"), (PUT,)))
        self.wrong_everywhere(("look", "e", "held", (of("e", "item"),), (PUT,)))

    def test_keys_of_each_block(self):
        for statement in (("each", "e", "pairs"), ("rise", "e", "pairs", "b"), ("look", "e", "pairs", (1, 2))):
            for key in ("a", "b"):
                self.right_everywhere(statement + ([("put", "paid", (of("e", key), 1), ((),))],))
            for key in ("n", "item", "s"):
                self.wrong_everywhere(statement + ([("put", "paid", (of("e", key), 1), ((),))],), (0,))

    def test_as_many_terms_as_keys(self):
        for terms in ((), [], (1,), (1, 2), [1, 2], (1, 2, 3), (1, 2, 3, 4), None, 1, {}, {0: 1}, "a", "ab"):
            for many, block in ((0, "all"), (1, "held"), (2, "pairs"), (2, "paid")):
                put = ("put", block, terms, ((), ()) if block == "held" else ((),))
                right = isinstance(terms, (list, tuple)) and len(terms) == many
                with self.subTest(terms=terms, block=block):
                    if right:
                        self.right((put, PUT))
                    else:
                        self.wrong((0,), (put, PUT))
                        self.wrong((0, 0, 0), (("scan", "r", "sale", (("same", 1, 1, (put,)),)),))
                    filled = FILL + (ALL, PUT, ("look", "e", block, terms, (("put", "never", (1,), ((),)),)))
                    if right:
                        self.right(filled)
                    else:
                        self.wrong((FILLED + 2,), filled)


class Products(Placed):
    def put(self, products):
        return ("put", "paid", (1, 2), (products,))

    def entry(self, *statements):
        """Statements around which r stands for a row and e for an entry."""
        return ("scan", "r", "sale", (("each", "e", "held", statements),))

    def right_with_e(self, product):
        for products in ((product,), [product, product], [product] * 4):
            self.right_everywhere(self.entry(self.put(products)))

    def wrong_with_e(self, product):
        right = (1, (of("e", "s"),))
        for products in ((product,), [right, product], [right, product, right], (right, right, right, product)):
            self.wrong_everywhere(self.entry(self.put(products)), (0, 0))

    def test_multiples(self):
        for multiple in (1, -1, 2, 1000, -1000):
            self.right_everywhere(self.put([(multiple, ())]))
            self.right_with_e((multiple, (of("e", "s"),)))
        for multiple in (0, 1001, -1001, 10 ** 30, True, False, None, "1", (1,), [1], (), of("e", "s"), SALES):
            self.wrong_everywhere(self.put([(multiple, ())]))
            self.wrong_with_e((multiple, (of("e", "s"),)))

    def test_factors(self):
        s, t = of("e", "s"), of("e", "t")
        for factors in ((s,), [t], (s, s, s), [s, t], (of("r", "item"), s, of("r", "many")), (of("e", "item"), t),
                        (of("e", "item"), of("r", "item"), s)):
            self.right_with_e((1, factors))

    def test_no_factors(self):
        s = of("e", "s")
        wrong = [5, True, None, "s", (), [], list(s), ("of", "e"), ("of", "e", "s", 1), ("off", "e", "s"), of("q", "s"),
                 of("e", "total"), of("e", "many"), of("r", "s"), of("r", "cost"), of(["e"], "s"), of("e", ["s"]),
                 of({}, {}), (1, (s,)), SALES, 0]
        for factor in wrong + anything():
            if factor != of("r", "item"):
                self.wrong((FILLED, 0, 0), FILL + (self.entry(self.put([(1, (s, factor))])),))
                self.wrong((FILLED, 0, 0, 0), FILL + (("same", 1, 1, [self.entry(self.put([(1, (factor, s))]))]),))
                between = self.put([(1, (of("r", "item"), factor, of("r", "many")))])
                self.wrong((FILLED, 0), FILL + (("scan", "r", "sale", [between]),))

    def test_at_most_three_factors(self):
        s, r = of("e", "s"), of("r", "many")
        self.right_with_e((1, (s, r, r)))
        self.wrong_with_e((1, (s, r, r, r)))
        self.wrong_with_e((1, [s] * 4))
        for many in (0, 1, 2, 3):
            self.right_everywhere(("scan", "r", "sale", [self.put([(1, [r] * many)])]))
        self.wrong_everywhere(("scan", "r", "sale", [self.put([(1, [r] * 4)])]), (0,))

    def test_no_products(self):
        s = (of("e", "s"),)
        for product in ([1, s], (1,), (1, s, s), (s, 1), (s,), s, (1, None), (1, 1), (1, {}), (1, of("e", "s")),
                        (1, "s")):
            self.wrong_with_e(product)
        for thing in anything():
            if thing != (1, ()):
                self.wrong_with_e(thing)
                self.wrong_everywhere(self.put([thing]))

    def test_none_to_four_products(self):
        product = (1, [])
        for many in (0, 1, 2, 3, 4):
            self.right_everywhere(self.put([product] * many))
            self.right_everywhere(self.put((product,) * many))
        for products in ([product] * 5, (product,) * 6, None, 1, "", {}, product, True):
            self.wrong_everywhere(self.put(products))

    def test_one_row_of_products_for_each_sum(self):
        for block, terms, many in (("all", (), 1), ("held", (1,), 2), ("three", (), 3)):
            blocks = BLOCKS + (("three", (), ("x", "y", "z")),)
            for adds in ((), [], ((),), [()], [[], []], ((), ()), ((), (), ()), [(), [], [(1, ())]], ((),) * 4):
                put = ("put", block, terms, adds)
                if len(adds) == many:
                    self.right((PUT, ("same", 1, 1, (put,))), blocks)
                else:
                    self.wrong((0,), (put,), blocks)
                    self.wrong((1, 0), (PUT, ("same", 1, 1, (put,))), blocks)
        for thing in anything():
            if thing not in ([[]], [()], ((),)):
                self.wrong((0,), (("put", "all", (), thing),))
        for at in (0, 1, 2):
            for row in (None, [(0, ())], [None], {}, 1):
                adds = [(), [(1, ())], ()]
                adds[at] = row
                self.wrong((0,), (("put", "three", (), adds),), blocks)


class SumsOfEntries(Placed):
    """Each product of a put has a sum of each entry around it."""

    def put(self, *products):
        return ("put", "paid", (1, 2), (products,))

    def test_a_product_without_a_sum_of_the_entry(self):
        for outer in OVER_ENTRIES:
            right, none = (1, (of("e", "s"),)), (1, ())
            self.right_everywhere(changed(outer, -1, (self.put(),)))
            self.right_everywhere(changed(outer, -1, (self.put(right),)))
            self.right_everywhere(changed(outer, -1, (("same", 1, 1, (self.put(right, right),)),)))
            for products in ((none,), (none, right), (right, none), (right, right, (1, (of("e", "item"),))),
                             ((1, (of("e", "item"),) * 3),)):
                self.wrong_everywhere(changed(outer, -1, (self.put(*products),)), (0,))
                self.wrong_everywhere(changed(outer, -1, (("same", 1, 1, (self.put(*products),)),)), (0, 0))
                self.wrong_everywhere(changed(outer, -1, (("scan", "r", "sale", (self.put(*products),)),)), (0, 0))

    def test_each_row_of_adds(self):
        put = ("put", "three", (), ((), [(1, (of("e", "s"),))], [(1, (of("e", "t"),)), (1, ())]))
        blocks = BLOCKS + (("three", (), ("x", "y", "z")),)
        self.wrong((1, 0), FILL[:1] + (("each", "e", "held", (put,)),), blocks)

    def test_behind_an_entry_no_sum_of_it_is_asked_for(self):
        for outer in OVER_ENTRIES:
            self.right(FILL + (("same", 1, 1, (changed(outer, -1, (ALL,)), self.put((1, ())))),))
            self.right(FILL + (changed(outer, -1, (ALL,)), self.put((1, ()))))

    def test_several_entries(self):
        def around(*statements):
            return ("each", "e", "held", [("rise", "f", "pairs", "a", [("scan", "r", "sale", [
                ("look", "g", "held", (of("e", "item"),), statements)])])])
        e, f, g, r = of("e", "s"), of("f", "n"), of("g", "t"), of("r", "many")
        body = FILL + (around(self.put((1, (e, f, g)), (1, (g, e, f)))),)
        self.right(body)
        for factors in ((e, f), (e, g), (f, g), (e, f, r), (e, e, f), (of("e", "item"), f, g), (e, f, of("g", "item")),
                        ()):
            self.wrong((FILLED, 0, 0, 0, 0), FILL + (around(self.put((1, (e, f, g)), (1, factors))),))
        self.wrong((FILLED, 0, 0, 0, 0), FILL + (around(self.put((1, (e, f, g, r)))),))

    def test_four_entries_leave_no_product(self):
        def around(statement):
            for v in "abcd":
                statement = ("each", v, "held", (statement,))
            return FILL + (statement,)
        self.right(around(self.put()))
        for v in "abcd":
            factors = [of(other, "s") for other in "abcd" if other != v]
            self.wrong((FILLED, 0, 0, 0, 0), around(self.put((1, factors))))
        self.wrong((FILLED, 0, 0, 0, 0), around(self.put((1, [of(v, "s") for v in "abcd"]))))


class Order(Placed):
    """Which puts and reads of one block may stand behind which."""

    held = ("put", "held", (1,), ((), ()))
    reads = (("each", "e", "held", (PUT,)), ("rise", "e", "held", "item", (PUT,)), ("look", "e", "held", (1,), (PUT,)))

    def test_one_put_of_a_block_in_a_top_statement(self):
        for statement in WITH_BODY:
            self.wrong_everywhere(changed(statement, -1, (PUT, PUT)), (1,))
            self.wrong_everywhere(changed(statement, -1, (("same", 1, 1, (PUT,)), PUT)), (1,))
            self.wrong_everywhere(changed(statement, -1, (PUT, ("same", 1, 1, (PUT,)))), (1, 0))
            self.wrong_everywhere(changed(statement, -1, (PUT, ("put", "never", (1,), ((),)), PUT)), (2,))
            self.right_everywhere(changed(statement, -1, (PUT, ("put", "never", (1,), ((),)))))
        self.right((PUT, PUT, ("same", 1, 1, (PUT,)), ("scan", "r", "sale", (PUT,))))

    def test_a_block_that_is_read_is_put_in_one_earlier_top_statement(self):
        for read in self.reads:
            deep = ("same", 1, 1, (ALL, ("scan", "r", "sale", (read,))))
            for statement, inner in ((read, ()), (deep, (1, 0))):
                self.right((self.held, statement))
                self.right((ALL, ("same", 1, 1, (self.held,)), ALL, statement))
                self.right((("scan", "r", "sale", (ALL, self.held)), statement, statement))
                self.wrong((0,) + inner, (statement,))
                self.wrong((1,) + inner, (ALL, statement))
                self.wrong((0,) + inner, (statement, self.held))
                self.wrong((2,) + inner, (self.held, self.held, statement))
                self.wrong((3,) + inner, (self.held, ALL, ("same", 1, 1, (self.held,)), statement))

    def test_a_block_is_not_read_in_the_top_statement_that_puts_it(self):
        for read in self.reads:
            self.wrong((0, 1), (("same", 1, 1, (self.held, read)),))
            self.wrong((0, 1), (("same", 1, 1, (("scan", "r", "sale", (self.held,)), read)),))
            self.wrong((0, 1, 0), (("same", 1, 1, (self.held, ("scan", "r", "sale", (read,)))),))
            self.wrong((1, 1), (self.held, ("same", 1, 1, (self.held, read))))
            self.wrong((0, 0), (("same", 1, 1, (read, self.held)),))

    def test_a_block_that_was_read_is_not_put(self):
        for read in self.reads:
            self.wrong((2,), (self.held, read, self.held))
            self.wrong((3,), (self.held, read, ALL, self.held, None))
            self.wrong((2, 0, 0), (self.held, read, ("scan", "r", "sale", (("same", 1, 1, (self.held,)),))))
            self.wrong((1, 0), (self.held, changed(read, -1, (self.held,))))
            self.wrong((1, 1), (self.held, changed(read, -1, (PUT, self.held))))
            self.wrong((1, 1), (self.held, ("same", 1, 1, (read, self.held))))
            self.right((self.held, read, PUT, ALL))

    def test_the_answer_may_be_read_too(self):
        last = ("put", "never", (1,), ((),))
        for read in (("each", "e", "paid", (last,)), ("rise", "e", "paid", "cost", (last,)),
                     ("look", "e", "paid", (1, 2), (last,))):
            self.right((PUT, read))
            self.wrong((1,), (ALL, read))
            self.wrong((2,), (PUT, PUT, read))

    def test_blocks_that_are_read_in_a_chain(self):
        pairs = ("put", "pairs", (of("e", "item"), 1), ([(1, (of("e", "t"),))],))
        paid = ("put", "paid", (of("e", "a"), 1), ([(1, (of("e", "n"),))],))
        self.right((self.held, ("each", "e", "held", (pairs,)), ("each", "e", "pairs", (paid,))))
        self.wrong((1,), (self.held, ("each", "e", "pairs", (PUT,)), ("put", "pairs", (1, 1), ((),))))


def within_sames(statement, many):
    for _ in range(many):
        statement = ("same", 1, 1, [statement])
    return statement


class Sizes(Placed):
    def test_eight_deep(self):
        self.right((within_sames(PUT, 7),))
        self.wrong((0,) * 9, (within_sames(PUT, 8),))
        self.wrong((0,) * 9, (within_sames(PUT, 9),))
        self.wrong((0,) * 9, (nested_bodies(60),))
        self.wrong((1,) + (0,) * 8, (PUT, nested_bodies(30), None))
        for statement in RIGHT:
            if statement == PUT:
                self.right(FILL + (within_sames(statement, 7),))
                self.wrong((FILLED,) + (0,) * 8, FILL + (within_sames(statement, 8),))
            else:
                self.right(FILL + (within_sames(statement, 6),))
                self.wrong((FILLED,) + (0,) * 8, FILL + (within_sames(statement, 7),))
                self.wrong((FILLED,) + (0,) * 8, FILL + (within_sames(statement, 8),))
                self.wrong((FILLED,) + (0,) * 7, FILL + (within_sames(changed(statement, -1, ()), 7),))

    def test_eight_deep_behind_others(self):
        self.right((within_sames(("same", 1, 1, (ALL, PUT)), 6),))
        self.wrong((0,) * 9, (within_sames(("same", 1, 1, (ALL, PUT)), 7),))
        self.wrong((0,) * 7 + (1, 0), (within_sames(("same", 1, 1, (ALL, ("same", 1, 1, (PUT,)))), 6),))

    def test_forty_statements(self):
        five = (within_sames(PUT, 7),) * 5
        self.assertEqual(len(self.right(five).body), 5)
        self.wrong((5,), five + (PUT,))
        self.wrong((5,), five + (within_sames(PUT, 3), None))
        four = (within_sames(PUT, 7),) * 4
        self.right(four + (within_sames(PUT, 5), ("same", 1, 1, (PUT,))))
        self.wrong((5, 0), four + (within_sames(PUT, 6), ("same", 1, 1, (PUT,))))
        self.wrong((5, 1), four + (within_sames(PUT, 5), ("same", 1, 1, (PUT, ALL)), None))
        self.wrong((5, 0, 1), four + (within_sames(PUT, 4), ("same", 1, 1, (("same", 1, 1, (PUT, ALL)),))))

    def test_forty_and_forty_one_with_many_bodies(self):
        names = "abcdef"
        blocks = [(name, (), ("s",)) for name in names]
        puts = tuple([("put", name, (), ((),)) for name in names])
        five = (("same", 1, 1, puts),) * 5
        self.right(five + (puts[0],) * 5, blocks)
        self.wrong((10,), five + (puts[0],) * 6, blocks)
        self.wrong((5, 4), five + (("scan", "r", "sale", puts),), blocks)


class FirstWrong(Placed):
    def test_a_statement_ahead_of_its_body(self):
        for statement in WITH_VARIABLE:
            self.wrong_everywhere(changed(changed(statement, 1, "Q"), -1, (None,)))
        self.wrong_everywhere(("same", True, 1, (None,)))
        self.wrong_everywhere(("same", 1, 1, (("same", 1, None, (None,)), None)), (0,))

    def test_a_body_ahead_of_what_stands_behind(self):
        self.wrong((0, 0, 0), (("same", 1, 1, (("same", 1, 1, (None,)), None)), None))
        self.wrong((0, 1), (("same", 1, 1, (("same", 1, 1, (PUT,)), None)), None))
        self.wrong((1,), (PUT, None, None))
        self.wrong((1, 0), (PUT, ("scan", "r", "sale", (None, None)), None))

    def test_a_wrong_one_ahead_of_one_that_stands_too_deep(self):
        self.wrong((0,), (None, nested_bodies(60)))
        self.wrong((0,) * 9, (nested_bodies(60), None))


if __name__ == "__main__":
    unittest.main()
