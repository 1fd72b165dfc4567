"""Asks as text [40]."""

import random
import unittest

import written
from asking import drawn
from firstmet.asks import Asks
from firstmet.asktexts import read_asks, write_asks
from firstmet.errors import BadAsk, BadAsks, BadShape, BadText, MetError
from firstmet.tables import Shape
from support import SALES, Case, anything, of, times

SHAPE = Shape([("t", ["a", "b"]), ("longname", ["c"])])
HEAD = "table t a b\ntable longname c"
EXAMPLE = """table sale item many
table price item cost
ask paid
from s sale
from p price
same s.item p.item
key item s.item
sum total 1 * s.many * p.cost"""
WHOLE = ("ask one", "from r t", "from s longname", "same r.a s.c", "same 1 r.b", "key k r.a", "key l -5", "sum m none",
         "sum n 2 + -3 * r.a * s.c", "ask two", "from e one", "sum z 1 * e.m")


def text_of(*rows):
    return "\n".join([HEAD, *rows])


class Texts(Case):
    def is_text_of(self, text, asks):
        self.assertEqual(self.leaves_alone(write_asks, asks), text)
        told = self.leaves_alone(read_asks, text)
        self.assertIs(told.__class__, Asks)
        self.assertEqual(told, asks)
        self.assertEqual(repr(told.asks), repr(asks.asks))

    def is_bad(self, at, text):
        self.raises(BadText, [at], read_asks, text)


class Written(Texts):
    def test_the_example(self):
        self.is_text_of(EXAMPLE, Asks(SALES, [("paid", [("s", "sale"), ("p", "price")], [(of("s", "item"), of(
            "p", "item"))], [("item", of("s", "item"))], [("total", [times(1, of("s", "many"), of("p", "cost"))])])]))

    def test_each_kind_of_row(self):
        one = ("one", [("r", "t"), ("s", "longname")], [(of("r", "a"), of("s", "c")), (1, of("r", "b"))],
               [("k", of("r", "a")), ("l", -5)], [("m", []), ("n", [times(2), times(-3, of("r", "a"), of("s", "c"))])])
        two = ("two", [("e", "one")], [], [], [("z", [times(1, of("e", "m"))])])
        self.is_text_of(text_of(*WHOLE), Asks(SHAPE, [one, two]))

    def test_few_rows(self):
        self.is_text_of(text_of("ask a", "from v t", "sum n none"), Asks(SHAPE, [("a", [("v", "t")], [], [], [
            ("n", [])])]))
        self.is_text_of(text_of("ask a", "from v t", "same 0 0", "sum n 7"), Asks(SHAPE, [
            ("a", [("v", "t")], [(0, 0)], [], [("n", [times(7)])])]))
        self.is_text_of(text_of("ask a", "from v t", "key k 0", "sum n -1000"), Asks(SHAPE, [
            ("a", [("v", "t")], [], [("k", 0)], [("n", [times(-1000)])])]))

    def test_words_that_mean_something_elsewhere(self):
        shape = Shape([("table", ["from", "sum"]), ("ask", ["key"])])
        text = "table table from sum\ntable ask key\nask none\nfrom same ask\nkey key same.key\nsum sum none"
        self.is_text_of(text, Asks(shape, [("none", [("same", "ask")], [], [("key", of("same", "key"))], [
            ("sum", [])])]))

    def test_drawn_asks(self):
        source = random.Random(47)
        for _ in range(300):
            asks = drawn(source, many=(1, 2, 3, 4), tame=source.random() < 0.5)
            self.is_text_of(write_asks(asks), asks)
            self.assertIsNone(written.first_wrong_of_asks(write_asks(asks)))

    def test_no_asks(self):
        for thing in [*anything(), (), [("a", [("v", "t")], [], [], [("n", [])])]]:
            self.raises(BadAsks, [thing], write_asks, thing)


class Wrong(Texts):
    def test_no_string(self):
        for thing in anything():
            if isinstance(thing, str):
                self.is_bad(1, thing)
            else:
                self.raises(BadText, [-1], read_asks, thing)
        self.raises(BadText, [-1], read_asks, EXAMPLE.split("\n"))

    def test_each_row_spoiled(self):
        rows = text_of(*WHOLE).split("\n")
        for at, row in enumerate(rows):
            for wrong in ("", " ", f" {row}", f"{row} ", row.replace(" ", "  ", 1), row.replace(" ", "\t", 1),
                          f"{row}\r", row.upper(), f"{row} A", f"{row} ;", f"{row} : none", f"{row} +",
                          f"{row} *", f"x{row}", row[1:], f"{row} abcdefghi", f"{row} 1", f"{row}.",
                          row.split(" ")[0], "end", "what", "block b : s", "scan v t", "put a : none"):
                for behind in (rows[at + 1:], [], ["what"]):
                    self.is_bad(at + 1, "\n".join([*rows[:at], wrong, *behind]))

    def test_numbers_of_words(self):
        for wrong in ("from v", "from v t t", "from 1 t", "from v 1", "from v.a t", "from", "same 1 1", "key k 1",
                      "sum n none", "ask b", "table z a"):
            self.is_bad(4, text_of("ask a", wrong))
        for wrong in ("same 1", "same 1 1 1", "same a 1", "same 1 a", "same 01 1", "same 1 -0", "same 1 r.a.b", "same",
                      "key k", "key k 1 1", "key 1 k", "key 1 1", "key k k", "key K 1", "key", "sum n", "sum none",
                      "sum n 1 +", "sum n 1 none", "sum n none none", "sum n none + 1", "sum n 1 ; 1", "sum n : 1",
                      "sum n 01", "sum n 1 * 1", "sum n 1 * r", "sum n 1 *", "sum 1 n", "sum 1 1", "sum n r.a",
                      "sum N none", "sum n 1000000000000", "ask", "ask b", "ask b c", "ask 1", "ask B", "from"):
            self.is_bad(5, text_of("ask a", "from r t", wrong))
            self.is_bad(5, text_of("ask a", "from r t", wrong, "sum n none"))
        for wrong in ("ask", "ask b c", "ask 1", "ask B", "ask abcdefghi", "from b t"):
            self.is_bad(6, text_of("ask a", "from r t", "sum n none", wrong))

    def test_rows_in_another_order(self):
        kinds = {"from": "from s t", "same": "same 1 1", "key": "key k 1", "sum": "sum n none"}
        later = {"from": "from u t", "same": "same 2 2", "key": "key l 1", "sum": "sum o none"}
        order = list(kinds)
        for ahead in order:
            rows = ["ask a", "from r t"] if ahead == "from" else ["ask a", "from r t", kinds[ahead]]
            for behind in order:
                text = text_of(*rows, later[behind], "sum m none")
                if order.index(behind) < order.index(ahead):
                    self.is_bad(len(rows) + 3, text)
                else:
                    self.assertEqual(write_asks(read_asks(text)), text)
        self.is_bad(8, text_of("ask a", "from r t", "same 1 1", "key k 1", "sum n none", "from s t"))
        self.is_bad(8, text_of("ask a", "from r t", "same 1 1", "key k 1", "sum n none", "key l 1"))

    def test_tables_stand_ahead(self):
        self.is_bad(4, text_of("ask a", "table u a"))
        self.is_bad(6, text_of("ask a", "from r t", "sum n none", "table u a"))
        self.is_bad(1, "from r t")
        self.is_bad(3, text_of("from r t"))
        self.is_bad(3, text_of("sum n none"))
        self.is_bad(3, text_of("same 1 1"))
        self.is_bad(3, text_of("key k 1"))

    def test_ahead_of_the_first_from(self):
        for row in ("same 1 1", "key k 1", "sum n none", "ask b"):
            self.is_bad(4, text_of("ask a", row))
            self.is_bad(4, text_of("ask a", row, "from r t", "sum n none"))
            self.is_bad(7, text_of("ask b", "from r t", "sum n none", "ask a", row, "from r t", "sum n none"))

    def test_an_ask_without_a_sum(self):
        for rows in (["from r t"], ["from r t", "same 1 1"], ["from r t", "key k 1"]):
            self.is_bad(4 + len(rows), text_of("ask a", *rows, "ask b", "from r t", "sum n none"))
            self.is_bad(4 + len(rows), text_of("ask a", *rows))
            self.is_bad(7 + len(rows), text_of("ask b", "from r t", "sum n none", "ask a", *rows))
        self.is_bad(4, text_of("ask a"))
        self.is_bad(7, text_of("ask b", "from r t", "sum n none", "ask a"))

    def test_no_table(self):
        self.is_bad(4, "ask a\nfrom r t\nsum n none")
        self.is_bad(3, "ask a\nfrom r t")
        self.is_bad(2, "ask a")
        self.is_bad(1, "")
        self.is_bad(2, "ask a\ntable t a")

    def test_empty_rows(self):
        self.is_bad(9, f"{EXAMPLE}\n")
        self.is_bad(1, f"\n{EXAMPLE}")
        self.is_bad(1, EXAMPLE.replace("\n", "\r\n"))

    def test_the_first_wrong_row(self):
        rows = EXAMPLE.split("\n")
        for at in range(len(rows)):
            for other in range(at, len(rows)):
                wrong = list(rows)
                wrong[at] = "what"
                wrong[other] = "is this"
                self.is_bad(at + 1, "\n".join(wrong))

    def test_errors_of_shape_and_asks(self):
        ask = "ask o\nfrom r t\nsum s none"
        self.raises(BadShape, [1], read_asks, f"table t a\ntable t b\n{ask}")
        self.raises(BadShape, [0], read_asks, "table t a a\nask o\nfrom r z\nsum s none")
        self.raises(BadShape, [0], read_asks, f"table t a b c d e\n{ask}")
        self.raises(BadShape, [-1], read_asks, "\n".join([f"table {name} a" for name in "abcdef"]))
        self.raises(BadAsk, [-1], read_asks, "table t a")
        self.raises(BadAsk, [-1], read_asks, "\n".join(["table t a", *[f"ask {name}\nfrom r t\nsum s none"
                                                                     for name in "abcdefg"]]))
        self.raises(BadAsk, [1], read_asks, f"table t a\n{ask}\n{ask}")
        for wrong in ("ask t\nfrom r t\nsum s none", "ask p\nfrom r z\nsum s none",
                      "ask p\nfrom r t\nfrom r t\nsum s 1",
                      "ask p\nfrom r p\nsum s none", "ask p\nfrom r t\nsame r.z 1\nsum s none",
                      "ask p\nfrom r t\nkey k r.z\nsum s none", "ask p\nfrom r t\nkey s 1\nsum s none",
                      "ask p\nfrom r t\nsum s 0", "ask p\nfrom r t\nsum s 1001", "ask p\nfrom r o\nsum s 1",
                      "ask p\nfrom r t\nkey k 1000000001\nsum s 1", "ask p\nfrom r t\nsum s 1 + 1 + 1 + 1 + 1",
                      "ask p\nfrom r t\nfrom s t\nfrom u t\nfrom v t\nsum s 1", "ask p\nfrom r t\nsum s 1\nsum s 1",
                      "\n".join(["ask p", "from r t", *["same 1 1"] * 5, "sum s 1"])):
            self.raises(BadAsk, [1], read_asks, f"table t a\n{ask}\n{wrong}")
            self.raises(BadAsk, [0], read_asks, f"table t a\n{wrong}\n{ask}")
            self.is_bad(5 + len(wrong.split("\n")), f"table t a\n{ask}\n{wrong}\nwhat")
        self.is_bad(3, "table t a\ntable t b\nfrom r t")

    def test_drawn_texts(self):
        source = random.Random(53)
        wrong = right = 0
        for _ in range(400):
            text = write_asks(drawn(source, many=(1, 2, 3, 4)))
            for _ in range(5):
                text = written.spoiled(source, text)
                at = written.first_wrong_of_asks(text)
                if at is None:
                    right += 1
                    self.reads_or_not(text)
                else:
                    wrong += 1
                    self.is_bad(at, text)
        self.assertTrue(min(wrong, right) > 100, (wrong, right))

    def reads_or_not(self, text):
        """The text is right; perhaps the asks are not."""
        try:
            asks = read_asks(text)
        except MetError as error:
            self.assertIn(error.__class__, (BadShape, BadAsk))
            return
        self.assertEqual(write_asks(asks), text)


if __name__ == "__main__":
    unittest.main()
