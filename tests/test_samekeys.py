"""The same keys [20], [21]."""

import random
import unittest

import chance
import naive
from firstmet.errors import TooMany
from firstmet.nests import nests_of
from firstmet.running import run
from firstmet.samekeys import is_keys_paper, keys_paper, parting_keys, same_keys
from pairs import HELD, Pairs, deep, made, out
from support import by, each, look, of, put, rise, same, scan, seek, spoiled, times

FREE = scan("r", "t", out(of("r", "a")))
NARROW = scan("r", "t", seek("s", "u", "a", of("r", "a"), out(of("r", "a"))))


def is_right_part(nests, others, thing):
    """Whether the thing is a right half of a keys paper, told in the plainest way."""
    if thing.__class__ is not tuple or len(thing) != len(nests):
        return False
    for (rows, group, _), part in zip(nests, thing):
        if part.__class__ is not tuple or len(part) != 2 or part[0].__class__ is not int:
            return False
        if part[1].__class__ is not tuple:
            return False
        if not 0 <= part[0] < len(others) or not all([at.__class__ is int for at in part[1]]):
            return False
        inner, aim, _ = others[part[0]]
        if len(part[1]) != len(inner) or not all([0 <= at < len(rows) for at in part[1]]):
            return False
        if naive.images_of(inner, aim, rows, group, part[1]) is None:
            return False
    return True


class Keys(Pairs):
    same = staticmethod(same_keys)
    paper = staticmethod(keys_paper)
    judge = staticmethod(is_keys_paper)
    parting = staticmethod(parting_keys)

    def differ(self, answer, another):
        return {key for key, _ in answer} != {key for key, _ in another}

    def judges_all_spoiled(self, one, other):
        """The judge says of each spoiled paper what the conditions say."""
        nests, others = nests_of(one), nests_of(other)
        for thing in spoiled(keys_paper(one, other)):
            right = (thing.__class__ is tuple and len(thing) == 2 and is_right_part(nests, others, thing[0])
                     and is_right_part(others, nests, thing[1]))
            self.assertIs(self.leaves_alone(is_keys_paper, one, other, thing), right, thing)


class Same(Keys):
    def test_equal_programs(self):
        self.only_paper(made([FREE]), made([FREE]), (((0, (0,)),), ((0, (0,)),)))
        self.only_paper(made([NARROW]), made([NARROW]), (((0, (0, 1)),), ((0, (0, 1)),)))

    def test_no_nests(self):
        none = made([put("h", [1], [])], HELD)
        self.only_paper(none, made([same(1, 2, FREE)]), ((), ()))
        self.are_unlike(none, made([FREE]))
        self.are_unlike(none, made([out(5)]))

    def test_a_loop_more_that_changes_nothing(self):
        more = made([scan("r", "t", seek("s", "t", "a", of("r", "a"), out(of("s", "a"))))])
        paper = self.are_same(made([FREE]), more)
        self.assertEqual(paper[0], ((0, (0, 0)),))
        self.assertIn(paper[1], (((0, (0,)),), ((0, (1,)),)))
        self.judges_all_spoiled(made([FREE]), more)
        self.judges_all_spoiled(more, made([FREE]))

    def test_a_nest_beside_it_that_is_narrower(self):
        for body in ([FREE, NARROW], [NARROW, FREE], [NARROW, FREE, seek("r", "t", "a", 5, out(of("r", "a"))), NARROW]):
            self.are_same(made([FREE]), made(body))
            self.judges_all_spoiled(made([FREE]), made(body))
            self.judges_all_spoiled(made(body), made([FREE]))
        self.are_unlike(made([FREE]), made([NARROW]))

    def test_nests_in_another_order(self):
        x, y = scan("r", "x", out(of("r", "b"))), scan("r", "y", out(of("r", "b")))
        self.only_paper(made([x, y]), made([y, x]), (((1, (0,)), (0, (0,))), ((1, (0,)), (0, (0,)))))

    def test_loops_of_each_kind(self):
        fill = scan("r", "t", put("h", [of("r", "a")], [times(1)]))
        add = [times(1, of("e", "s"))]
        for body in ([by("r", "t", "b", out(of("r", "a")))], [scan("q", "t",
            seek("r", "t", "a", of("q", "a"), out(of("r", "a"))))],
                     [fill, each("e", "h", out(of("e", "g"), adds=add))],
                         [fill, rise("e", "h", "g", out(of("e", "g"), adds=add))],
                     [fill, scan("q", "t", look("e", "h", [of("q", "a")], out(of("q", "a"), adds=add)))]):
            self.are_same(made([FREE]), made(body, *[HELD] * (len(body) - 1)))

    def test_given_keys(self):
        self.only_paper(made([out(5), out(6)]), made([out(6), out(5)]), (((1, ()), (0, ())), ((1, ()), (0, ()))))
        self.are_unlike(made([out(5)]), made([out(6)]))
        self.are_same(made([out(5)]), made([out(5), scan("r", "x", out(5))]))
        self.are_unlike(made([out(5)]), made([scan("r", "x", out(5))]))

    def test_no_keys(self):
        self.are_same(made([out()], many=0), made([scan("r", "x", out()), out()], many=0))
        self.are_unlike(made([out()], many=0), made([scan("r", "x", out())], many=0))
        self.are_same(made([scan("r", "x", out())], many=0), made([scan("r", "x", scan("s", "x", out()))], many=0))

    def test_sums_do_not_count(self):
        self.are_same(made([scan("r", "t", out(of("r", "a"), adds=[times(3, of("r", "b"))]))]), made([FREE]))


class Unlike(Keys):
    def test_one_way_round_and_the_other(self):
        store = self.are_unlike(made([FREE]), made([NARROW]))
        self.assertEqual(run(made([NARROW]), store), [])
        self.assertEqual(len(run(made([FREE]), store)), 1)

    def test_keys_that_differ_on_few_stores(self):
        path = scan("r", "t", seek("s", "t", "a", of("r", "b"), out(of("r", "a"))))
        ring = scan("r", "t", seek("s", "t", "a", of("r", "b"), same(of("s", "b"), of("r", "a"), out(of("r", "a")))))
        loop = scan("r", "t", same(of("r", "a"), of("r", "b"), out(of("r", "a"))))
        longer = scan("r", "t", seek("s", "t", "a", of("r", "b"), seek("p", "t", "a", of("s", "b"), out(of("r", "a")))))
        bodies = [path, ring, loop, longer, FREE]
        for one in bodies:
            for other in bodies:
                if one != other:
                    self.are_unlike(made([one]), made([other]))
        self.are_same(made([ring, loop]), made([ring]))
        self.are_same(made([path, ring, longer]), made([path]))
        self.are_unlike(made([ring, loop]), made([path]))

    def test_given_values_are_not_met_by_chance(self):
        store = self.are_unlike(made([scan("r", "t", out(of("r", "a")))]), made([
            seek("r", "t", "a", value, out(of("r", "a"))) for value in range(1, 11)]))
        self.assertTrue(all([row[0] > 10 or row[0] < 1 for row in store.rows_of("t")]))
        self.are_unlike(made([seek("r", "t", "a", 3, out(of("r", "b")))]),
            made([seek("r", "t", "a", 4, out(of("r", "b")))]))
        self.are_unlike(made([scan("r", "t", out(of("r", "a"), of("r", "a")))], many=2),
                        made([scan("r", "t", out(of("r", "a"), of("r", "b")))], many=2))

    def test_one_nest_of_several(self):
        x, y = scan("r", "x", out(of("r", "b"))), scan("r", "y", out(of("r", "b")))
        self.are_unlike(made([x, y]), made([x]))
        self.are_unlike(made([x, y, FREE]), made([x, y, NARROW]))


class Papers(Keys):
    def test_spoiled_papers(self):
        x = scan("r", "x", out(of("r", "b")))
        wide = scan("r", "x", scan("s", "x", scan("p", "t", out(of("r", "b")))))
        wider = scan("s", "x", scan("r", "x", scan("p", "t", scan("q", "t", out(of("r", "b"))))))
        for one, other in (([x, wide], [x, wider]), ([wide], [wider]), ([x, x], [x]), ([NARROW, FREE], [FREE, NARROW])):
            self.are_same(made(one), made(other))
            self.judges_all_spoiled(made(one), made(other))
            self.judges_all_spoiled(made(other), made(one))

    def test_flags_in_the_place_of_integers(self):
        two = made([scan("r", "x", scan("s", "y", out(of("s", "b"))))])
        turned = made([scan("s", "y", scan("r", "x", out(of("s", "b"))))])
        self.only_paper(two, turned, (((0, (1, 0)),), ((0, (1, 0)),)))
        for thing in ((((0, (True, 0)),), ((0, (1, 0)),)), (((0, (1, False)),), ((0, (1, 0)),)),
                      (((False, (1, 0)),), ((0, (1, 0)),)), (((0, (1, 0)),), ((0, [1, 0]),)),
                          [((0, (1, 0)),), ((0, (1, 0)),)],
                      (((0, (1, 0)),), [(0, (1, 0))]), (((0, (1, 0)),), ([0, (1, 0)],))):
            self.assertIs(is_keys_paper(two, turned, thing), False)

    def test_what_is_told_is_told_again(self):
        one, other = made([FREE, NARROW]), made([FREE])
        self.assertEqual(keys_paper(one, other), keys_paper(one, other))
        self.assertEqual(parting_keys(other, made([NARROW])), parting_keys(other, made([NARROW])))


class Errors(Keys):
    def test_programs_and_pairs(self):
        self.has_errors_of_pairs()

    def test_too_many(self):
        seven, six = made([deep(7, out(1))]), made([deep(6, out(1))])
        for one, other in ((seven, six), (six, seven), (seven, seven), (seven, made([FREE])), (made([out(1)]), seven)):
            self.all_raise(TooMany, [], one, other)
        self.are_same(six, made([deep(3, out(1))]))
        # Of the sums nothing is asked here.
        add = [times(1, *[of("e", "s")] * 3)]
        fill = deep(3, put("h", [1], [times(1)]))
        self.are_same(made([fill, each("e", "h", out(1, adds=add))], HELD), made([deep(1, out(1))]))

    def test_too_many_in_a_nest_that_is_empty(self):
        fill = deep(6, put("h", [1], []))
        empty = made([fill, scan("r", "x", look("e", "h", [2], out(1, adds=[times(1, of("e", "s"))])))], HELD)
        self.all_raise(TooMany, [], empty, made([out(1)]))
        self.all_raise(TooMany, [], made([out(1)]), empty)


class Drawn(Keys):
    def test_drawn_programs(self):
        source = random.Random(20)
        found = []
        for _ in range(250):
            one = chance.program(source, keys=source.choice((0, 1, 2)), givens=source.random() < 0.5)
            other = chance.changed(source, chance.changed(source, one))
            if source.random() < 0.3:
                other = chance.program(source, keys=len(one.blocks[-1][1]))
            try:
                found.append(self.hold(one, other, [chance.store(source) for _ in range(4)]))
                if found[-1] and source.random() < 0.2:
                    self.judges_all_spoiled(one, other)
            except TooMany:
                pass
        self.assertGreater(found.count(True), 60)
        self.assertGreater(found.count(False), 30)


if __name__ == "__main__":
    unittest.main()
