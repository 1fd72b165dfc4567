"""The example at the end of the document, and all that is promised together, over drawn asks."""

import random
import unittest

import chance
from asking import drawn
from firstmet.alikes import alike, is_alike_paper, is_parting, parting
from firstmet.asks import Asks, answered, answers, plain_program
from firstmet.asktexts import read_asks, write_asks
from firstmet.desk import Desk
from firstmet.errors import BadProgram, NotPlain, TooLong, TooMany, Unlike
from firstmet.idle import idle_tables, is_stirring, lean, stirring
from firstmet.moves import is_right, moved
from firstmet.passes import best_plan, fewest_passes, fused, is_plan, is_shut_paper, shut_paper
from firstmet.reports import is_report, quicker
from firstmet.running import run, turns
from firstmet.tables import Store
from firstmet.texts import read_program, write_program
from support import SALES, Case, of, put, scan, times

PLAIN = """table sale item many
table price item cost
block paid item : total
scan s sale
scan p price
same s.item p.item
put paid s.item : 1 * s.many * p.cost
end
end
end"""
ASKS = """table sale item many
table price item cost
ask paid
from s sale
from p price
same s.item p.item
key item s.item
sum total 1 * s.many * p.cost"""
HELD = """table sale item many
table price item cost
block held item : s
block paid item : total
scan p price
put held p.item : 1 * p.cost
end
scan s sale
look p held s.item
put paid s.item : 1 * s.many * p.s
end
end"""


class Example(Case):
    def test_asks_and_their_plain_program(self):
        asks = read_asks(ASKS)
        self.assertEqual(asks, Asks(SALES, [("paid", [("s", "sale"), ("p", "price")], [(of("s", "item"), of(
            "p", "item"))], [("item", of("s", "item"))], [("total", [times(1, of("s", "many"), of("p", "cost"))])])]))
        self.assertEqual(write_asks(asks), ASKS)
        self.assertEqual(write_program(plain_program(asks)), PLAIN)

    def test_moves(self):
        plain = read_program(PLAIN)
        sought = moved(plain, ("seek", (0, 0)))
        held = moved(sought, ("hold", (0, 0), "held"))
        self.assertEqual(write_program(held), HELD)
        self.assertEqual(held, read_program(HELD))
        self.assertIs(is_right(plain, ("seek", (0, 0))), True)
        self.assertIs(is_right(sought, ("hold", (0, 0), "held")), True)
        self.assertIs(answers(held, read_asks(ASKS)), True)
        self.assertEqual(held.body[0], scan("p", "price", put("held", [of("p", "item")], [times(1, of("p", "cost"))])))

    def test_the_turn_is_not_right(self):
        plain = read_program(PLAIN)
        turned = moved(plain, ("turn", (0,)))
        self.assertIs(is_right(plain, ("turn", (0,))), False)
        self.assertIs(answers(turned, read_asks(ASKS)), False)
        store = Store(SALES, {"sale": [(1, 1), (2, 1)], "price": [(2, 1), (1, 1)]})
        self.assertEqual(run(plain, store), [((1,), (1,)), ((2,), (1,))])
        self.assertEqual(run(turned, store), [((2,), (1,)), ((1,), (1,))])
        self.assertIs(is_parting(plain, turned, store), True)
        self.assertIs(is_parting(plain, turned, parting(plain, turned)), True)
        with self.assertRaises(Unlike) as caught:
            Desk(plain, store).move(("turn", (0,)))
        self.assertIs(is_parting(plain, turned, caught.exception.value), True)

    def test_made_quicker(self):
        plain = read_program(PLAIN)
        store = Store(SALES, {"sale": [(at % 3, at) for at in range(9)], "price": [(at % 3, at) for at in range(9)]})
        steps = quicker(plain, store, "held")
        self.assertEqual([move for move, _ in steps], [("seek", (0, 0)), ("hold", (0, 0), "heldb")])
        held = read_program(HELD.replace(" held ", " heldb "))
        self.assertIs(is_report(plain, held, steps), True)
        self.assertEqual((turns(plain, store), turns(held, store)), (90, 27))
        self.assertEqual(run(plain, store), run(held, store))

    def test_what_else_is_told(self):
        plain, held = read_program(PLAIN), read_program(HELD)
        self.assertEqual((fewest_passes(plain), fewest_passes(held)), (1, 2))
        self.assertEqual(best_plan(held), ((0,), (1,)))
        self.assertEqual(fused(held, best_plan(held)), held)
        self.assertIs(is_shut_paper(held, 1, shut_paper(held, 1)), True)
        for program in (plain, held):
            self.assertEqual(idle_tables(program), [])
            for table in ("sale", "price"):
                self.assertIs(is_stirring(program, table, stirring(program, table)), True)
            self.assertEqual(lean(program), program)


class Together(Case):
    def test_drawn_asks(self):
        source = random.Random(59)
        counts = {"asks": 0, "steps": 0, "passes": 0, "keys": 0}
        while counts["asks"] < 80:
            asks = drawn(source, many=(1, 2, 2, 3), givens=source.random() < 0.3)
            store = chance.store(source, most=9)
            plain = plain_program(read_asks(write_asks(asks)))
            try:
                steps = quicker(plain, store, "new")
            except (NotPlain, TooLong, TooMany):
                continue
            counts["asks"] += 1
            counts["steps"] += len(steps)
            program = self.behind(plain, steps, store)
            self.assertIs(is_report(plain, program, steps), True)
            self.assertIs(answers(program, asks), True)
            programs = [plain, program, read_program(write_program(lean(program)))]
            for one in list(programs):
                programs.extend(self.fused(one, counts))
            self.lists_are_the_same(source, asks, programs, counts)
        self.assertTrue(min(counts.values()) > 10, counts)

    def behind(self, program, steps, store):
        for move, paper in steps:
            behind = moved(program, move)
            self.assertIs(is_alike_paper(program, behind, paper), True)
            self.assertLess(turns(behind, store), turns(program, store))
            program = behind
        return program

    def fused(self, program, counts):
        """The program fused by a best plan, if that keeps the rules."""
        plan = best_plan(program)
        self.assertIs(is_plan(program, plan), True)
        self.assertIs(is_shut_paper(program, len(plan) - 1, shut_paper(program, len(plan) - 1)), True)
        counts["passes"] += len(program.body) - len(plan)
        try:
            behind = fused(program, plan)
        except BadProgram:
            return []
        self.assertIs(alike(program, behind), True)
        return [behind]

    def lists_are_the_same(self, source, asks, programs, counts):
        for _ in range(4):
            store = chance.store(source, most=6)
            try:
                told = answered(asks, store)
            except TooLong:
                continue
            counts["keys"] += len(told) > 1
            for program in programs:
                self.assertEqual(run(program, store), told)


if __name__ == "__main__":
    unittest.main()
