"""What the tests of two programs share: their errors, their papers and their stores."""

from firstmet.errors import BadPair, BadProgram, TooLong
from firstmet.programs import Program
from firstmet.running import run
from firstmet.tables import Shape, Store
from support import Case, anything, put, scan, spoiled

SHAPE = Shape((("t", ("a", "b")), ("u", ("a", "c")), ("w", ("d", "e", "f")), ("x", ("b",)), ("y", ("b",))))
HELD = ("h", ("g",), ("s",))


def out(*terms, adds=()):
    return put("out", terms, adds)


def made(body, *blocks, many=1, sums=1, shape=SHAPE):
    """A program whose answer has so many keys and sums."""
    return Program(shape, (*blocks, ("out", tuple("klm"[:many]), tuple("npq"[:sums]))), body)


def deep(many, inner):
    """So many scans of x around a statement."""
    for v in "abcdefgh"[:many]:
        inner = scan(v, "x", inner)
    return inner


class Pairs(Case):
    """Each test of a kind of sameness sets the four functions of that kind, and how two answers differ."""

    same = paper = judge = parting = None

    def differ(self, answer, another):
        """Whether two lists differ as is asked here."""
        raise NotImplementedError

    def are_same(self, one, other):
        """The programs are the same in this way; the paper that is told."""
        for left, right in ((one, other), (other, one)):
            self.assertIs(self.leaves_alone(self.same, left, right), True)
            self.assertIsNone(self.leaves_alone(self.parting, left, right))
            paper = self.leaves_alone(self.paper, left, right)
            self.assertIs(paper.__class__, tuple)
            self.assertIs(self.leaves_alone(self.judge, left, right, paper), True)
            self.judges_others_wrong(left, right)
        return self.paper(one, other)

    def are_unlike(self, one, other):
        """The programs are not the same in this way; the store that is told."""
        for left, right in ((one, other), (other, one)):
            self.assertIs(self.leaves_alone(self.same, left, right), False)
            self.assertIsNone(self.leaves_alone(self.paper, left, right))
            store = self.leaves_alone(self.parting, left, right)
            self.assertIs(store.__class__, Store)
            self.assertEqual(store.shape, left.shape)
            self.assertTrue(self.differ(run(left, store), run(right, store)))
            self.judges_others_wrong(left, right)
            self.assertIs(self.judge(left, right, ((), ())), False)
        return self.parting(one, other)

    def judges_others_wrong(self, one, other):
        paper = repr(self.paper(one, other))
        for thing in anything():
            if repr(thing) != paper:
                self.assertIs(self.leaves_alone(self.judge, one, other, thing), False)

    def only_paper(self, one, other, paper):
        """The programs are the same, and by this paper alone."""
        self.assertEqual(repr(self.are_same(one, other)), repr(paper))
        for thing in spoiled(paper):
            self.assertIs(self.leaves_alone(self.judge, one, other, thing), False, thing)

    def all_raise(self, error, kept, one, other):
        """All functions of this kind raise this error, the judge whatever it judges."""
        for call in (self.same, self.paper, self.parting):
            self.raises(error, kept, call, one, other)
        for thing in (None, (), ((), ()), 7):
            self.raises(error, kept, self.judge, one, other, thing)

    def has_errors_of_pairs(self):
        """What is no Program, and programs that cannot be compared."""
        right = made([out(1)])
        for thing in anything():
            if not isinstance(thing, Program):
                for other in (right, None, thing):
                    self.all_raise(BadProgram, [thing], thing, other)
                self.all_raise(BadProgram, [thing], right, thing)
        self.all_raise(BadProgram, [7], made([deep(7, out(1))]), 7)
        bigger = Shape((*SHAPE.tables[:4], ("y", ("z",))))
        body = [put("out", [1] * 2, [], [])]
        pairs = [(right, made([out(1)], shape=bigger)), (right, made([out(1, 1)], many=2)),
            (right, made([out()], many=0)),
                 (made(body, many=2, sums=2), made([put("out", [1], [], [], [])], sums=3)),
                 (right, made([put("out", [1], [], [])], sums=2)),
                     (made([deep(7, out(1, adds=[(1, ())]))]), made(body, many=2,
                                                                                                               sums=2))]
        for one, other in pairs:
            self.all_raise(BadPair, [other], one, other)
            self.all_raise(BadPair, [one], other, one)
        again = Program(Shape(list(SHAPE.tables)), (("paid", ("key",), ("sum",)),), [put("paid", [1], [])])
        self.assertIs(self.same(right, again) if self.can_be_asked(right) else True, True)

    def can_be_asked(self, program):
        return True

    def hold(self, one, other, stores):
        """What is told of two programs is right on these stores."""
        same = self.same(one, other)
        self.assertIs(self.paper(one, other) is not None, same)
        self.assertIs(self.parting(one, other) is None, same)
        if same:
            self.assertTrue(self.judge(one, other, self.paper(one, other)))
        for store in stores if same else [self.parting(one, other)]:
            try:
                self.assertIs(self.differ(run(one, store), run(other, store)), not same, (one.body, other.body))
            except TooLong:
                pass
        return same
