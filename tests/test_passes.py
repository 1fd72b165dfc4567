"""Plans of passes, fused programs [34], the fewest passes and shut papers [35]."""

import itertools
import random
import unittest

import chance
import wide
from firstmet.errors import BadCount, BadPlan, BadProgram, TooLong, TooMany
from firstmet.passes import best_plan, fewest_passes, fused, is_plan, is_shut_paper, shut_paper
from firstmet.programs import Program
from firstmet.running import run
from pairs import made, out
from support import Case, anything, by, each, look, of, put, rise, same, scan, seek, times

# Blocks that the programs here may put, the last one without keys.
BLOCKS = [(name, ("g",), ("s",)) for name in ("ha", "hb", "hc", "hd", "he")]


def fill(name, table="x", *more):
    return scan("r", table, put(name, [1], []), *more)


def program(*body):
    return made(list(body), *BLOCKS)


def blocks_of(statement):
    """The blocks that a statement puts, and those that it reads."""
    if statement[0] == "put":
        return {statement[1]}, set()
    puts, reads = set(), set()
    for inner in statement[-1]:
        more = blocks_of(inner)
        puts |= more[0]
        reads |= more[1]
    return puts, reads | ({statement[2]} if statement[0] in ("each", "rise", "look") else set())


def needs(body):
    """The pairs (j, i) of indexes of which the first one needs the second one."""
    told = [blocks_of(statement) for statement in body]
    return {(j, i) for j in range(len(body)) for i in range(j) if told[i][0] & (told[j][0] | told[j][1])}


def kind(body, at):
    if body[at][0] in ("scan", "run"):
        return body[at][:1] + body[at][2:-1]
    return at


def is_plain_plan(made_one, plan):
    """Whether a tuple of ascending tuples of indexes is a plan, read off the document."""
    body = made_one.body
    if sorted([at for part in plan for at in part]) != list(range(len(body))) or () in plan:
        return False
    place = {at: number for number, part in enumerate(plan) for at in part}
    if any([place[i] >= place[j] for j, i in needs(body)]):
        return False
    if any([len({kind(body, at) for at in part}) != 1 for part in plan]):
        return False
    widths = [sum([0 if body[at][0] == "put" else len(body[at][-1]) for at in part]) for part in plan]
    return max(widths) <= 8


def all_orders(many):
    """All rows of passes, whatever they are, in which each index stands once."""
    for places in itertools.product(range(many), repeat=many):
        most = max(places) + 1
        plan = tuple([tuple([at for at in range(many) if places[at] == number]) for number in range(most)])
        if () not in plan:
            yield plan


def drawn(source, tops):
    """A program of so many top statements, most of them scans of two tables that put and read a few blocks."""
    while True:
        body = []
        for _ in range(tops):
            v = source.choice("rrs")
            inner = [drawn_inner(source, v) for _ in range(source.choice((1, 1, 2)))]
            head = source.choice((("scan", v, "x"), ("scan", v, "x"), ("scan", v, "y"), ("run", v, "t", "b")))
            body.append((*head, inner))
        try:
            return program(*body)
        except BadProgram:
            pass


def drawn_inner(source, v):
    names = [name for name, _, _ in BLOCKS]
    name = source.choice([*names, "out", "out"])
    deed = source.choice(("put", "put", "read", "deep"))
    if deed == "put":
        return put(name, [of(v, "b")], [times(1)])
    if deed == "read":
        return each("e", source.choice(names), put(name, [of("e", "g")], [times(1, of("e", "s"))]))
    return seek(source.choice("pqrs"), "u", "a", of(v, "b"), put(name, [of(v, "b")], [times(2)]))


class Plans(Case):
    def judged(self, made_one, thing, right):
        self.assertIs(self.leaves_alone(is_plan, made_one, thing), right, thing)
        if not right:
            self.raises(BadPlan, [thing], fused, made_one, thing)

    def comes(self, made_one, plan, behind):
        self.judged(made_one, plan, True)
        told = self.leaves_alone(fused, made_one, plan)
        self.assertIs(told.__class__, Program)
        self.assertEqual(told, behind)
        self.assertEqual(repr(told.body), repr(behind.body))


class IsPlan(Plans):
    def test_one_kind(self):
        three = program(fill("ha"), fill("hb"), fill("hc"))
        for plan in all_orders(3):
            self.judged(three, plan, True)
        self.judged(three, ((0,), (1,)), False)
        self.judged(three, ((0, 1),), False)

    def test_indexes(self):
        three = program(fill("ha"), fill("hb"), fill("hc"))
        for thing in ((), ((),), ((0, 1, 2), ()), ((), (0, 1, 2)), ((0, 0, 1, 2),), ((0, 1), (1, 2)), ((1, 0), (2,)),
                      ((2, 1, 0),), ((0, 1, 2), (2,)), ((0, 1, 3),), ((0, 1, 2), (3,)), ((-1, 0, 1),), ((-3, -2, -1),),
                      ((0, 1, 2.0),), ((False, 1, 2),), ((0, True, 2),), ((0,), (True,), (2,)), [(0, 1, 2)],
                      ([0, 1, 2],), ((0,), [1], (2,)), (0, 1, 2), ((0, 1, "2"),), ((0, 1, None),), {(0, 1, 2): 1},
                      "012", (((0, 1, 2),),)):
            self.judged(three, thing, False)
        for thing in anything():
            for part in (thing, (thing,), (0, 1, thing), (thing, 1, 2)):
                if not (isinstance(part, tuple) and repr(part) in ("(0, 1, 2)",)):
                    self.judged(three, (part,), False)
            self.judged(three, thing, False)
            self.judged(three, ((0, 1, 2), thing), False)

    def test_kinds(self):
        body = [fill("ha"), fill("hb", "y"), by("r", "t", "a", put("hc", [1], [])),
                by("r", "t", "b", put("hd", [1], [])), scan("r", "t", put("he", [1], []))]
        for one, other in itertools.combinations(range(5), 2):
            rest = tuple([(at,) for at in range(5) if at not in (one, other)])
            self.judged(program(*body), ((one, other), *rest), False)
        self.judged(program(*body), tuple([(at,) for at in (4, 2, 0, 3, 1)]), True)
        for inner in (seek("r", "x", "b", 1, put("ha", [1], [])), put("ha", [1], []), same(1, 1, put("ha", [1], []))):
            other = (*inner[:-1], (put("hb", [1], []),)) if inner[0] != "put" else put("hb", [1], [])
            self.judged(program(inner, other), ((0, 1),), False)
            self.judged(program(inner, other), ((1,), (0,)), True)
        runs = program(by("r", "t", "a", put("ha", [1], [])), by("s", "t", "a", put("hb", [1], [])))
        self.judged(runs, ((0, 1),), True)

    def test_entries_are_of_kinds_of_their_own(self):
        body = [put("ha", [1], []), each("e", "ha", put("hb", [1], [])), each("e", "ha", put("hc", [1], [])),
                rise("e", "ha", "g", put("hd", [1], [])), rise("e", "ha", "g", put("he", [1], [])),
                look("e", "ha", [1], out(1))]
        for one, other in itertools.combinations(range(1, 6), 2):
            rest = tuple([(at,) for at in range(1, 6) if at not in (one, other)])
            self.judged(program(*body), ((0,), (one, other), *rest), False)
        self.judged(program(*body), ((0,), (5,), (4,), (3,), (2,), (1,)), True)

    def test_needs_by_a_block_that_is_read(self):
        for inner in (each("e", "ha", put("hb", [1], [])), rise("e", "ha", "g", put("hb", [1], [])),
                      look("e", "ha", [1], put("hb", [1], []))):
            two = program(fill("ha"), scan("s", "x", same(1, 1, inner)), fill("hc"))
            for plan in all_orders(3):
                flat = {at: number for number, part in enumerate(plan) for at in part}
                self.judged(two, plan, flat[0] < flat[1])

    def test_needs_by_a_block_that_both_put(self):
        two = program(fill("ha"), fill("hb"), fill("ha"))
        for plan in all_orders(3):
            flat = {at: number for number, part in enumerate(plan) for at in part}
            self.judged(two, plan, flat[0] < flat[2])

    def test_both_read_one_block(self):
        body = [fill("ha"), scan("s", "x", each("e", "ha", put("hb", [1], []))),
                scan("s", "x", each("e", "ha", put("hc", [1], [])))]
        self.judged(program(*body), ((0,), (1, 2)), True)
        self.judged(program(*body), ((0,), (2,), (1,)), True)

    def test_needs_of_needs(self):
        body = [fill("ha"), scan("s", "x", each("e", "ha", put("hb", [1], []))),
                scan("s", "x", each("e", "hb", put("hc", [1], []))), fill("hd")]
        for plan in all_orders(4):
            flat = {at: number for number, part in enumerate(plan) for at in part}
            self.judged(program(*body), plan, flat[0] < flat[1] < flat[2])

    def test_statements_at_once(self):
        # As each puts another block, no more than 6 statements can stand at once; those further in do not count.
        puts = [put(name, [1], []) for name, _, _ in BLOCKS]
        self.judged(program(scan("r", "x", *puts), fill("out")), ((0, 1),), True)
        within = scan("r", "x", same(1, 1, *puts[:3]), scan("s", "y", *puts[3:], out(1)))
        self.judged(program(within), ((0,),), True)

    def test_no_program(self):
        for thing in anything():
            if not isinstance(thing, Program):
                for plan in (((0,),), None):
                    self.raises(BadProgram, [thing], is_plan, thing, plan)
                    self.raises(BadProgram, [thing], fused, thing, plan)


class Fused(Plans):
    def test_passes(self):
        body = [scan("r", "x", put("ha", [of("r", "b")], [])), out(2),
                scan("s", "x", same(1, of("s", "b"), put("hb", [of("s", "b")], [times(2, of("s", "b"))])),
                     put("hc", [1], [])),
                scan("r", "y", put("hd", [1], [])), scan("q", "x", put("he", [of("q", "b")], []))]
        def second(v):
            return [same(1, of(v, "b"), put("hb", [of(v, "b")], [times(2, of(v, "b"))])), put("hc", [1], [])]
        self.comes(program(*body), ((1,), (0, 2, 4), (3,)), program(
            body[1], scan("r", "x", *body[0][3], *second("r"), put("he", [of("r", "b")], [])), body[3]))
        self.comes(program(*body), ((2, 4), (0,), (3,), (1,)), program(
            scan("s", "x", *second("s"), put("he", [of("s", "b")], [])), body[0], body[3], body[1]))
        self.comes(program(*body), ((0,), (1,), (2,), (3,), (4,)), program(*body))

    def test_runs(self):
        body = [by("r", "t", "b", put("ha", [of("r", "a")], [])), by("s", "t", "b", put("hb", [of("s", "a")], []))]
        self.comes(program(*body), ((0, 1),), program(by("r", "t", "b", body[0][4][0], put("hb", [of("r", "a")], []))))

    def test_what_breaks_a_rule(self):
        body = [scan("r", "x", put("ha", [of("r", "b")], [])), scan("s", "x", scan("r", "y", put("hb", [1], [])))]
        two = program(*body)
        self.judged(two, ((0,), (1,)), True)
        self.assertIs(is_plan(two, ((0, 1),)), True)
        self.raises(BadProgram, [two], fused, two, ((0, 1),))
        turned = program(body[1], body[0])
        self.comes(turned, ((0, 1),), program(scan("s", "x", *body[1][3], put("ha", [of("s", "b")], []))))

    def test_bad_plans_come_ahead(self):
        two = program(fill("ha"), scan("s", "x", scan("r", "y", put("hb", [1], []))))
        for thing in (None, ((0,),), [(0, 1)]):
            self.raises(BadPlan, [thing], fused, two, thing)

    def test_drawn_programs_give_the_same(self):
        source = random.Random(13)
        fewer = wrong = 0
        for _ in range(300):
            one = drawn(source, source.choice((2, 3, 4))) if source.random() < 0.7 else wide.program(source)
            plans = [plan for plan in all_orders(len(one.body)) if is_plain_plan(one, plan)]
            for plan in source.sample(plans, min(len(plans), 4)):
                self.judged(one, plan, True)
                try:
                    behind = fused(one, plan)
                except BadProgram as error:
                    self.assertIs(error.value, one)
                    wrong += 1
                    continue
                self.assertEqual(len(behind.body), len(plan))
                fewer += len(plan) < len(one.body)
                for _ in range(2):
                    store = chance.store(source, shape=one.shape)
                    try:
                        told = run(one, store)
                    except TooLong:
                        continue
                    self.assertEqual(run(behind, store), told)
        self.assertGreater(fewer, 20)
        self.assertGreater(wrong, 0)


class Fewest(Plans):
    def fewest(self, one, many):
        self.assertEqual(self.leaves_alone(fewest_passes, one), many)
        plan = self.leaves_alone(best_plan, one)
        self.assertEqual(len(plan), many)
        self.assertIs(is_plan(one, plan), True)

    def test_known_ones(self):
        self.fewest(program(out(1)), 1)
        self.fewest(program(fill("ha"), fill("hb"), fill("hc")), 1)
        self.fewest(program(fill("ha"), fill("hb", "y"), fill("hc")), 2)
        self.fewest(program(fill("ha"), fill("ha"), fill("ha")), 3)
        reads = [scan("s", "x", each("e", name, put(other, [1], []))) for name, other in (("ha", "hb"), ("hb", "hc"))]
        self.fewest(program(fill("ha"), *reads), 3)
        self.fewest(program(fill("ha"), reads[0], fill("hd"), fill("he")), 2)
        self.fewest(program(fill("ha"), fill("hd"), reads[0], reads[1], fill("he"), fill("out", "y")), 4)

    def test_a_pass_that_waits(self):
        # One pass of x is enough if that of y comes first.
        body = [fill("ha", "y"), fill("hb"), scan("s", "x", each("e", "ha", put("hc", [1], [])))]
        self.fewest(program(*body), 2)
        self.assertEqual(best_plan(program(*body)), ((0,), (1, 2)))

    def test_against_all_plans(self):
        source = random.Random(17)
        found = []
        while len(found) < 120:
            one = drawn(source, source.choice((3, 4, 4, 5))) if source.random() < 0.8 else wide.program(source)
            least = min([len(plan) for plan in all_orders(len(one.body)) if is_plain_plan(one, plan)])
            self.fewest(one, least)
            found.append(len(one.body) - least)
            for m in range(least):
                self.assertIs(is_shut_paper(one, m, shut_paper(one, m)), True)
            self.assertIsNone(shut_paper(one, least))
        self.assertTrue(all([found.count(less) > 2 for less in (0, 1, 2)]), found)

    def test_is_plan_against_the_document(self):
        source = random.Random(19)
        for _ in range(60):
            one = drawn(source, source.choice((2, 3, 4)))
            for plan in all_orders(len(one.body)):
                self.assertIs(is_plan(one, plan), is_plain_plan(one, plan))

    def test_too_many(self):
        eight = [fill("ha")] * 8
        self.fewest(program(*eight), 8)
        two = scan("r", "x", put("ha", [1], []), put("hb", [1], []))
        self.fewest(program(two, two, two, two), 4)
        self.fewest(program(*eight, fill("ha", "y")), 9)
        for body in ([fill("ha")] * 9, [two, two, two, two, fill("hc")],
                     [by("r", "t", "a", put("hc", [1], []))] * 9):
            for call in (fewest_passes, best_plan):
                self.raises(TooMany, [], call, program(*body))
                self.raises(TooMany, [], call, program(out(1), *body, out(2)))
            for m in (0, 1, 12):
                self.raises(TooMany, [], shut_paper, program(*body), m)
        # Those are of kinds of their own.
        self.fewest(program(*[same(1, 1, put("ha", [1], []))] * 12), 12)
        self.fewest(program(*[put("ha", [1], [])] * 12), 12)
        self.fewest(program(*[fill("ha"), fill("ha", "y")] * 6), 12)

    def test_no_program(self):
        for thing in anything():
            if not isinstance(thing, Program):
                self.raises(BadProgram, [thing], fewest_passes, thing)
                self.raises(BadProgram, [thing], best_plan, thing)
                for m in (0, None, 13):
                    self.raises(BadProgram, [thing], shut_paper, thing, m)
                    self.raises(BadProgram, [thing], is_shut_paper, thing, m, ((()),))


class Shut(Plans):
    def setUp(self):
        # Passes: (0, 1), (2, 3), (4,), as 2 waits for 0, and 4 for 2.
        self.body = [fill("ha"), fill("hb"), scan("s", "x", each("e", "ha", put("hc", [1], []))), fill("hb", "y"),
                     scan("s", "x", each("e", "hc", put("hd", [1], [])))]
        self.one = program(*self.body)

    def judged_paper(self, m, thing, right):
        self.assertIs(self.leaves_alone(is_shut_paper, self.one, m, thing), right, thing)

    def test_told(self):
        self.assertEqual(fewest_passes(self.one), 4)
        for m in range(4):
            paper = self.leaves_alone(shut_paper, self.one, m)
            self.assertIs(paper.__class__, tuple)
            self.assertEqual(len(paper), m + 1)
            self.assertEqual({row.__class__ for row in paper}, {tuple})
            self.judged_paper(m, paper, True)
            for other in range(13):
                if other != m:
                    self.judged_paper(other, paper, False)
        for m in range(4, 13):
            self.assertIsNone(self.leaves_alone(shut_paper, self.one, m))

    def test_the_least_paper(self):
        # The kinds are the scans of x and that of y.
        paper = (((),), ((0, 1),), ((0, 1, 2), (0, 1, 3)), ((0, 1, 2, 3), (0, 1, 2, 4)))
        self.judged_paper(3, paper, True)
        self.judged_paper(2, paper[:3], True)
        self.judged_paper(1, paper[:2], True)
        self.judged_paper(0, paper[:1], True)

    def test_sets_that_are_wanted(self):
        paper = (((),), ((0, 1),), ((0, 1, 2), (0, 1, 3)), ((0, 1, 2, 3), (0, 1, 2, 4)))
        for at, row in enumerate(paper):
            for k in range(len(row)):
                self.judged_paper(3, (*paper[:at], row[:k] + row[k + 1:], *paper[at + 1:]), False)
                for gone in row[k]:
                    less = tuple([there for there in row[k] if there != gone])
                    thing = (*paper[:at], (*row[:k], less, *row[k + 1:]), *paper[at + 1:])
                    self.judged_paper(3, thing, False)

    def test_more_sets_and_other_orders(self):
        paper = (((),), ((0, 1),), ((0, 1, 2), (0, 1, 3)), ((0, 1, 2, 3), (0, 1, 2, 4)))
        self.judged_paper(3, (((),), ((0, 1), ()), ((0, 1, 3), (0, 1, 2)), ((0, 1, 2, 4), (0, 1, 2, 3))), True)
        self.judged_paper(3, (*paper[:3], (*paper[3], (), (4,), (0, 1, 2, 4))), True)
        self.judged_paper(3, (((), ()), *paper[1:]), True)
        # More can be done from what is more.
        self.judged_paper(1, (((), (0,)), ((0, 1), (0, 1, 2))), True)
        self.judged_paper(1, (((0,), ()), ((0, 1),)), False)
        # What leaves nothing ready of a kind must itself lead on.
        self.judged_paper(1, (((), (3,)), ((0, 1), (0, 1, 3))), True)
        self.judged_paper(1, (((), (3,)), ((0, 1),)), False)
        self.judged_paper(1, (((), (0, 1, 3)), ((0, 1, 2, 3),)), True)

    def test_sets_that_stand_for_nothing_that_can_be_done(self):
        self.judged_paper(1, (((), (4,)), ((0, 1, 4),)), True)
        self.judged_paper(1, (((), (4,)), ((0, 1),)), False)

    def test_everything(self):
        self.judged_paper(0, (((), (0, 1, 2, 3, 4)),), False)
        self.judged_paper(1, (((),), ((0, 1), (0, 1, 2, 3, 4))), False)
        self.judged_paper(1, (((), (0, 1, 2, 3, 4)), ((0, 1),)), False)
        self.judged_paper(1, (((), (1, 2, 3, 4)), ((0, 1),)), False)
        self.judged_paper(0, (((), (1, 2, 3, 4)),), True)

    def test_the_first_row(self):
        paper = (((),), ((0, 1),), ((0, 1, 2), (0, 1, 3)), ((0, 1, 2, 3), (0, 1, 2, 4)))
        for row in ((), ((0,),), ((0, 1),)):
            self.judged_paper(3, (row, *paper[1:]), False)
            self.judged_paper(0, (row,), False)

    def test_kinds_of_values(self):
        paper = (((),), ((0, 1),), ((0, 1, 2), (0, 1, 3)), ((0, 1, 2, 3), (0, 1, 2, 4)))
        self.judged_paper(3, list(paper), False)
        for at, row in enumerate(paper):
            # A row is a list or a tuple.
            self.judged_paper(3, (*paper[:at], list(row), *paper[at + 1:]), True)
            for k, part in enumerate(row):
                things = [list(part), (*part, 5), (*part, -1), part + part[-1:], part[::-1], None, set(part),
                          (*part, None), (*part, "4"), (*part, 4.0), tuple([at == 1 if at < 2 else at for at in part])]
                for thing in [thing for thing in things if repr(thing) != repr(part)]:
                    self.judged_paper(3, (*paper[:at], (*row[:k], thing, *row[k + 1:]), *paper[at + 1:]), False)
            for thing in (None, "", {(): 1}, set(row), 0):
                self.judged_paper(3, (*paper[:at], thing, *paper[at + 1:]), False)
        for m in (0, 3):
            for thing in anything():
                self.judged_paper(m, thing, False)
                self.judged_paper(m, (thing,), m == 0 and repr(thing) in ("[()]", "((),)"))

    def test_numbers(self):
        for m in (True, False, -1, 13, 10 ** 9, None, "1", (1,), 1.0):
            self.raises(BadCount, [m], shut_paper, self.one, m)
            self.raises(BadCount, [m], is_shut_paper, self.one, m, None)
            self.raises(BadCount, [m], shut_paper, program(*[fill("ha")] * 9), m)
        for thing in anything():
            if repr(thing) not in ("0", "1", "2"):
                self.raises(BadCount, [thing], shut_paper, self.one, thing)
        self.assertIsNone(shut_paper(self.one, 12))
        self.judged_paper(12, (((),),) * 13, False)

    def test_programs_with_too_many_statements_can_be_judged(self):
        nine = program(*[fill("ha")] * 9)
        paper = tuple([(tuple(range(many)),) for many in range(9)])
        for m in range(9):
            self.assertIs(is_shut_paper(nine, m, paper[:m + 1]), True)
        self.assertIs(is_shut_paper(nine, 9, (*paper, (tuple(range(9)),))), False)

    def test_twelve_statements(self):
        rows = [same(1, 1, put(name, [1], [])) for name, _, _ in [*BLOCKS, ("out", (), ())]]
        twelve = program(*rows, *rows)
        self.assertEqual(fewest_passes(twelve), 12)
        for m in range(12):
            self.assertIs(is_shut_paper(twelve, m, shut_paper(twelve, m)), True)
        self.assertIsNone(shut_paper(twelve, 12))


if __name__ == "__main__":
    unittest.main()
