"""What the tests share: things of every kind, and the asking for an error with what it keeps."""

import unittest

from firstmet.errors import MetError
from firstmet.programs import Program
from firstmet.tables import Shape, Store

SALES = Shape((("sale", ("item", "many")), ("price", ("item", "cost"))))


def nested(kind, deep):
    """An empty row in rows of this kind, so deep."""
    thing = kind()
    for _ in range(deep):
        thing = kind([thing])
    return thing


def nested_dict(deep):
    thing = {}
    for _ in range(deep):
        thing = {"a": thing}
    return thing


def nested_bodies(deep):
    """A statement with bodies in bodies, so many."""
    statement = ("put", "paid", (1,), ((),))
    for _ in range(deep):
        statement = ("same", 1, 1, (statement,))
    return statement


def anything():
    """Things of every kind that a caller may give where an error is named."""
    return [
        None, True, False, 0, 1, -1, 2, 300, 10 ** 9, 10 ** 40, -10 ** 40,
        "", "a", "sale", "Sale", "sale ", "a b", "ab\n", "\t", "\n", "~", " ", "a1", "abcdefghi", "a" * 1000,
        [], (), {}, [[]], [()], ((),), [1], (1,), [True], ("a",), ["a"], (None,), {"a": 1}, {1: 2}, {None: []},
        ("of",), ("of", "r", "item"), ("put", "paid", (1,), ((),)), ("scan", "r", "sale"), (1, ()),
        (("sale", ("item",)),),
        nested(list, 29), nested(tuple, 29), nested_dict(29), nested_bodies(60), (nested_bodies(60),),
        SALES, Store(SALES, {}), Program(SALES, (("paid", (), ("n",)),), (("put", "paid", (), ((),)),)), MetError(),
    ]


class Case(unittest.TestCase):
    def raises(self, error, kept, call, *given):
        """The call raises just this error, which keeps just this, and leaves what it was given as it was."""
        before = repr(given)
        with self.assertRaises(MetError) as caught:
            call(*given)
        self.assertEqual(repr(given), before)
        self.assertIs(caught.exception.__class__, error)
        what = list(vars(caught.exception).values())
        self.assertEqual(what, kept)
        self.assertEqual(repr(what), repr(kept))

    def leaves_alone(self, call, *given):
        """What the call returns; it leaves what it was given as it was."""
        before = repr(given)
        told = call(*given)
        self.assertEqual(repr(given), before)
        return told

    def equals_nothing_else(self, thing, others):
        for other in others:
            with self.subTest(other=other):
                self.assertFalse(thing == other)
                self.assertFalse(other == thing)
                self.assertTrue(thing != other)
                self.assertIs(thing == other, False)


def of(v, f):
    return ("of", v, f)


def scan(v, table, *body):
    return ("scan", v, table, body)


def by(v, table, field, *body):
    """A run; that word stands for what a program does."""
    return ("run", v, table, field, body)


def seek(v, table, field, term, *body):
    return ("seek", v, table, field, term, body)


def each(v, block, *body):
    return ("each", v, block, body)


def rise(v, block, key, *body):
    return ("rise", v, block, key, body)


def look(v, block, terms, *body):
    return ("look", v, block, tuple(terms), body)


def same(left, right, *body):
    return ("same", left, right, body)


def put(block, terms, *adds):
    return ("put", block, tuple(terms), tuple([tuple(products) for products in adds]))


def times(multiple, *factors):
    return (multiple, factors)


def spoiled(paper):
    """Things that are like the paper, a tuple of integers and tuples, but for one thing that makes them wrong."""
    yield list(paper)
    yield (*paper, None)
    yield (*paper, ())
    for at, part in enumerate(paper):
        yield paper[:at] + paper[at + 1:]
        yield paper[:at] + (part, part) + paper[at + 1:]
        for thing in (None, True, -1, 10 ** 6, "", [], {}, (part,), [part], str(part), SALES):
            yield paper[:at] + (thing,) + paper[at + 1:]
        if isinstance(part, tuple):
            for thing in spoiled(part):
                yield paper[:at] + (thing,) + paper[at + 1:]
        else:
            for thing in (part == 1, part + 1, part - 1):
                yield paper[:at] + (thing,) + paper[at + 1:]
