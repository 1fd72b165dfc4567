"""Programs as text [39]."""

import random
import unittest

import wide
import written
from firstmet.errors import BadBlock, BadProgram, BadShape, BadText, MetError
from firstmet.programs import Program
from firstmet.tables import Shape
from firstmet.texts import read_program, write_program
from support import SALES, Case, anything, by, each, look, of, put, rise, same, scan, seek, times

SHAPE = Shape([("t", ["a", "b"]), ("longname", ["c"])])
HEAD = "table t a b\ntable longname c\nblock h g : s\nblock out k l : x y"
BLOCKS = [("h", ["g"], ["s"]), ("out", ["k", "l"], ["x", "y"])]
EXAMPLE = """table sale item many
table price item cost
block paid item : total
scan s sale
scan p price
same s.item p.item
put paid s.item : 1 * s.many * p.cost
end
end
end"""


def text_of(*rows):
    return "\n".join([HEAD, *rows])


class Texts(Case):
    def is_text_of(self, text, program):
        self.assertEqual(self.leaves_alone(write_program, program), text)
        told = self.leaves_alone(read_program, text)
        self.assertIs(told.__class__, Program)
        self.assertEqual(told, program)
        self.assertEqual(repr((told.blocks, told.body)), repr((program.blocks, program.body)))

    def is_bad(self, at, text):
        self.raises(BadText, [at], read_program, text)


class Written(Texts):
    def test_the_example(self):
        total = [times(1, of("s", "many"), of("p", "cost"))]
        self.is_text_of(EXAMPLE, Program(SALES, [("paid", ["item"], ["total"])], [scan("s", "sale", scan(
            "p", "price", same(of("s", "item"), of("p", "item"), put("paid", [of("s", "item")], total))))]))

    def test_each_statement(self):
        inner = put("out", [of("r", "a"), 5], [], [])
        told = "put out r.a 5 : none ; none"
        for row, statement in (("scan r t", scan("r", "t", inner)), ("run r t b", by("r", "t", "b", inner)),
                               ("seek r t a 7", seek("r", "t", "a", 7, inner))):
            self.is_text_of(text_of(row, told, "end"), Program(SHAPE, BLOCKS, [statement]))
        self.is_text_of(text_of("scan r t", "seek s longname c r.b", told, "end", "end"), Program(SHAPE, BLOCKS, [
            scan("r", "t", seek("s", "longname", "c", of("r", "b"), inner))]))
        self.is_text_of(text_of("scan r t", "same r.a -3", told, "end", "end"), Program(SHAPE, BLOCKS, [
            scan("r", "t", same(of("r", "a"), -3, inner))]))
        inner = put("out", [of("r", "g"), 5], [], [])
        told = "put out r.g 5 : none ; none"
        for row, statement in (("each r h", each("r", "h", inner)), ("rise r h g", rise("r", "h", "g", inner)),
                               ("look r h -8", look("r", "h", [-8], inner))):
            self.is_text_of(text_of("put h 1 : none", row, told, "end"),
                            Program(SHAPE, BLOCKS, [put("h", [1], []), statement]))

    def test_several_statements_in_a_body(self):
        rows = ["put h 0 : 5", "same 1 1", "same 2 2", "put out 1 2 : none ; none", "end", "put h 3 : none", "end",
                "same 0 0", "end"]
        self.is_text_of(text_of(*rows[:7]), Program(SHAPE, BLOCKS, [put("h", [0], [times(5)]), same(1, 1, same(
            2, 2, put("out", [1, 2], [], [])), put("h", [3], []))]))

    def test_blocks(self):
        shape = Shape([("t", ["a"])])
        head = "table t a"
        self.is_text_of(f"{head}\nblock n : s\nput n : none", Program(shape, [("n", [], ["s"])], [put("n", [], [])]))
        self.is_text_of(f"{head}\nblock n : s t u\nput n : none ; 1 ; none",
                        Program(shape, [("n", [], ["s", "t", "u"])], [put("n", [], [], [times(1)], [])]))
        self.is_text_of(f"{head}\nblock n k l m : s\nput n 1 2 3 : none",
                        Program(shape, [("n", ["k", "l", "m"], ["s"])], [put("n", [1, 2, 3], [])]))
        self.is_text_of(f"{head}\nblock n : s\nblock m k : s\nput n : 7\nlook v n\nput m 1 : 1 * v.s\nend",
                        Program(shape, [("n", [], ["s"]), ("m", ["k"], ["s"])], [put("n", [], [times(7)]), look(
                            "v", "n", [], put("m", [1], [times(1, of("v", "s"))]))]))

    def test_products(self):
        def adds(*sums):
            return Program(SHAPE, BLOCKS, [scan("r", "t", put("out", [1, 2], *sums))])
        a, b = of("r", "a"), of("r", "b")
        for words, sums in (("1 ; -1", [[times(1)], [times(-1)]]),
                            ("1000 * r.a ; none", [[times(1000, a)], []]),
                            ("none ; -1000 * r.a * r.b * r.a", [[], [times(-1000, a, b, a)]]),
                            ("2 + 3 ; 4 * r.b + 5 * r.a + -6 + 7 * r.b * r.b", [[times(2), times(3)], [
                                times(4, b), times(5, a), times(-6), times(7, b, b)]])):
            self.is_text_of(text_of("scan r t", f"put out 1 2 : {words}", "end"), adds(*sums))

    def test_values(self):
        for value in (0, 1, -1, 10, -10, 999999999, 10 ** 9, -10 ** 9):
            self.is_text_of(text_of(f"put out {value} 1 : none ; none"),
                            Program(SHAPE, BLOCKS, [put("out", [value, 1], [], [])]))

    def test_words_that_mean_something_elsewhere(self):
        shape = Shape([("table", ["block", "end", "none"]), ("scan", ["put"])])
        inner = put("put", [of("none", "put")], [times(1, of("end", "block"))])
        program = Program(shape, [("put", ["look"], ["same"])], [
            scan("end", "table", seek("none", "scan", "put", of("end", "none"), inner))])
        self.is_text_of("table table block end none\ntable scan put\nblock put look : same\nscan end table\n"
                        "seek none scan put end.none\nput put none.put : 1 * end.block\nend\nend", program)

    def test_most_things(self):
        names = ["a", "bc", "def", "ghij", "abcdefgh"]
        shape = Shape([(name, ["k", "l", "m", "n"]) for name in names])
        blocks = [(name, ["k", "l", "m"], ["s", "t", "u"]) for name in ("o", "p", "q", "r", "s", "z")]
        product = times(-1000, *[of("h", "k")] * 3)
        statement = put("z", [of("h", "k")] * 3, *[[product] * 4] * 3)
        for v in "hgfedcb":
            statement = scan(v, "abcdefgh", statement)
        program = Program(shape, blocks, [statement] * 5)
        text = write_program(program)
        self.assertEqual(len(text.split("\n")), 5 + 6 + 5 * 15)
        self.assertEqual(read_program(text), program)

    def test_drawn_programs(self):
        source = random.Random(41)
        for _ in range(300):
            program = wide.program(source)
            self.is_text_of(write_program(program), program)
            self.assertIsNone(written.first_wrong_of_program(write_program(program)))

    def test_no_program(self):
        for thing in anything():
            if not isinstance(thing, Program):
                self.raises(BadProgram, [thing], write_program, thing)


class Wrong(Texts):
    def test_no_string(self):
        for thing in anything():
            if not isinstance(thing, str):
                self.raises(BadText, [-1], read_program, thing)
        self.raises(BadText, [-1], read_program, [EXAMPLE])
        self.raises(BadText, [-1], read_program, EXAMPLE.split("\n"))

    def test_other_strings(self):
        for thing in anything():
            if isinstance(thing, str):
                self.is_bad(1, thing)

    def test_each_row_spoiled(self):
        rows = text_of("scan r t", "put h r.a : 1 * r.b", "end", "look v h 3", "put out 1 2 : none ; 2 * v.s + 3 * v.s",
                       "end").split("\n")
        read_program("\n".join(rows))
        for at, row in enumerate(rows):
            for wrong in ("", " ", f" {row}", f"{row} ", row.replace(" ", "  ", 1) if " " in row else "  end",
                          row.replace(" ", "\t", 1) if " " in row else "end\t", f"{row}\r", row.upper(), f"{row} A",
                          f"{row} ;", f"{row} :", f"{row} +", f"{row} *", f"x{row}", row[1:], f"{row} abcdefghi",
                          f"{row} : a", f"{row} 1 2" if "look" not in row else "look", f"{row}."):
                for behind in (rows[at + 1:], [], ["what"]):
                    self.is_bad(at + 1, "\n".join([*rows[:at], wrong, *behind]))

    def test_integers(self):
        for wrong in ("01", "00", "-0", "-01", "+1", "1000000000000", "-1000000000000", "--1", "1-", "-", "1.0", "1_0",
                      "1e3", "0x1", "", " 1", "1,", "None", "1.5", "-a.b"):
            for row in (f"put out {wrong} 2 : none ; none", f"put out 1 {wrong} : none ; none",
                        f"put out 1 2 : {wrong} ; none", f"put out 1 2 : none ; 1 + {wrong}", f"same 1 {wrong}",
                        f"same {wrong} 1", f"seek v t a {wrong}", f"look v h {wrong}"):
                self.is_bad(5, text_of(row))
        # What is too large for a value is the program's fault, not the text's.
        for right in ("999999999999", "-999999999999", "1000000001"):
            self.raises(BadProgram, [(0,)], read_program, text_of(f"put out {right} 2 : none ; none"))
            self.raises(BadProgram, [(0,)], read_program, text_of(f"put out 1 2 : none ; {right}"))
            self.raises(BadProgram, [(1,)], read_program, text_of("put h 1 : none", f"same {right} 1",
                                                                 "put out 1 2 : none ; none", "end"))
        self.raises(BadProgram, [(0,)], read_program, text_of("put out 1 2 : 0 ; none"))

    def test_terms_and_factors(self):
        for wrong in ("r", "r.", ".a", ".", "r.a.b", "r..a", "R.a", "r.A", "1.a", "r.1", "r.abcdefghi", "abcdefghi.a",
                      "none", "r:a", "-r.a", "r. a", "r .a"):
            for row in (f"same {wrong} 1", f"same 1 {wrong}", f"seek v t a {wrong}", f"look v h {wrong}",
                        f"put out {wrong} 1 : none ; none", f"put out 1 2 : 1 * {wrong} ; none",
                        f"put out 1 2 : 1 * r.a * {wrong} ; none"):
                self.is_bad(5, text_of(row))
        for wrong in ("1", "0", "-1"):
            self.is_bad(5, text_of(f"put out 1 2 : 1 * {wrong} ; none"))

    def test_signs_between_words(self):
        for wrong in ("put out 1 2", "put out 1 2 :", "put out 1 2 : ;", "put out 1 2 : none ;", "put out 1 2 : ; none",
                      "put out 1 2 none ; none", "put out 1 2 : none none", "put out 1 2 : none + 1",
                      "put out 1 2 : 1 + none", "put out 1 2 : 1 +", "put out 1 2 : + 1", "put out 1 2 : 1 * ",
                      "put out 1 2 : 1 *",
                      "put out 1 2 : * r.a", "put out 1 2 : r.a", "put out 1 2 : r.a * 1", "put out 1 2 : 1 r.a",
                      "put out 1 2 : 1*r.a", "put out 1 2 : 1 ; ; 1", "put out 1 2 : 1 : 1", "put out 1 2: 1",
                      "put out 1 2 :1", "put out : 1 2 : 1", "put : 1", "put", "put 1 : 1", "put out 1 2 : 1 + + 1",
                      "put out 1 2 : 1 - 1", "put out 1 2 : 1 , 1", "put out 1 2 : 1;1", "put Out 1 2 : 1",
                      "put out 1 2 ; 1", "put out 1 2 + 1 : 1", "put out 1 2 : end"):
            self.is_bad(5, text_of(wrong))

    def test_numbers_of_words(self):
        for wrong in ("scan v", "scan v t t", "scan", "run v t", "run v t a b", "seek v t a", "seek v t a 1 1",
                      "seek v t 1", "each v", "each v h h", "rise v h", "rise v h g g", "look v", "look", "same 1",
                      "same 1 1 1", "same", "end end", "end 1", "scan v t :", "scan 1 t", "scan v 1", "run v t 1",
                      "seek v t 1 a", "look v 1", "look 1 h", "look v h :", "scan : t", "Scan v t", "scans v t",
                      "seek"):
            self.is_bad(5, text_of(wrong))
        for at, wrong in ((1, "table"), (1, "table t"), (1, "table t 1"), (1, "table t a :"), (1, "table t : a"),
                          (1, "table T a"), (1, "table t a b.c"), (1, "Table t a"), (2, "table t a\nblock"),
                          (2, "table t a\nblock b"), (2, "table t a\nblock b :"), (2, "table t a\nblock b s"),
                          (2, "table t a\nblock : s"), (2, "table t a\nblock b : s : t"), (2, "table t a\nblock b : :"),
                          (2, "table t a\nblock b k :"), (2, "table t a\nblock b: s"), (2, "table t a\nblock b : 1"),
                          (2, "table t a\nblock b 1 : s"), (2, "table t a\nblock b : s ; t"),
                          (2, "table t a\nblock B : s"), (2, "table t a\nblock b :s")):
            self.is_bad(at, wrong)
            self.is_bad(at, f"{wrong}\nblock b : s\nput b : none")

    def test_rows_in_another_order(self):
        self.is_bad(2, "block out : s\ntable t a\nput out : none")
        self.is_bad(3, "table t a\nblock out : s\ntable u a\nput out : none")
        self.is_bad(3, "table t a\nput out : none\nblock out : s")
        self.is_bad(3, "table t a\nscan v t\nblock out : s\nput out : none\nend")
        self.is_bad(4, "table t a\nblock out : s\nput out : none\ntable u a")
        self.is_bad(4, "table t a\nblock out : s\nscan v t\ntable u a\nput out : none\nend")
        self.is_bad(6, "table t a\nblock out : s\nscan v t\nput out : none\nend\nblock o : s")
        self.is_bad(2, "put out : none\ntable t a")
        self.is_bad(2, "scan v t\ntable t a")

    def test_ends(self):
        self.is_bad(5, text_of("end"))
        self.is_bad(6, text_of("put h 1 : none", "end"))
        self.is_bad(8, text_of("same 1 1", "put h 1 : none", "end", "end"))
        self.is_bad(8, text_of("same 1 1", "put h 1 : none", "end", "end", "what"))
        self.is_bad(7, text_of("same 1 1", "put h 1 : none"))
        self.is_bad(6, text_of("same 1 1"))
        self.is_bad(10, text_of("same 1 1", "same 1 1", "same 1 1", "put h 1 : none", "end"))
        self.is_bad(1, "end")

    def test_no_table(self):
        self.is_bad(3, "block out : s\nput out : none")
        self.is_bad(2, "put out : none")
        self.is_bad(2, "block out : s")
        self.is_bad(2, "scan v t")
        self.is_bad(4, "scan v t\nput out : none\nend")

    def test_empty_rows(self):
        self.is_bad(1, "")
        self.is_bad(1, "\n")
        self.is_bad(11, f"{EXAMPLE}\n")
        self.is_bad(11, f"{EXAMPLE}\n\n")
        self.is_bad(1, f"\n{EXAMPLE}")
        self.is_bad(4, EXAMPLE.replace("\nscan s", "\n\nscan s"))
        self.is_bad(1, EXAMPLE.replace("\n", "\r\n"))

    def test_the_first_wrong_row(self):
        rows = EXAMPLE.split("\n")
        for at in range(len(rows)):
            for other in range(at, len(rows)):
                wrong = list(rows)
                wrong[at] = "what"
                wrong[other] = "is this"
                self.is_bad(at + 1, "\n".join(wrong))

    def test_errors_of_shape_and_program(self):
        self.raises(BadShape, [1], read_program, "table t a\ntable t b\nblock o : s\nput o : none")
        self.raises(BadShape, [0], read_program, "table t a a\nblock o : o\nput o : none")
        self.raises(BadShape, [0], read_program, "table t a b c d e\nblock o : s\nput z : none")
        six = "\n".join([f"table {name} a" for name in "abcdef"])
        self.raises(BadShape, [-1], read_program, f"{six}\nblock o : s\nput o : none")
        self.raises(BadBlock, [-1], read_program, "table t a")
        self.raises(BadBlock, [-1], read_program, "table t a\nput o : none")
        self.raises(BadBlock, [0], read_program, "table t a\nblock t : s\nput z : none")
        self.raises(BadBlock, [1], read_program, "table t a\nblock o : s\nblock p k : k")
        self.raises(BadBlock, [0], read_program, "table t a\nblock o a b c d : s")
        self.raises(BadBlock, [0], read_program, "table t a\nblock o : s t u v")
        self.raises(BadProgram, [()], read_program, HEAD)
        self.raises(BadProgram, [()], read_program, text_of(*["put h 1 : none"] * 13))
        self.raises(BadProgram, [(0,)], read_program, text_of("same 1 1", "end"))
        self.raises(BadProgram, [(0,)], read_program, text_of("scan r z", "put h 1 : none", "end"))
        self.raises(BadProgram, [(1, 0)], read_program, text_of("put h 1 : none", "scan r t", "put out r.a r.z : 1 ; 1",
                                                               "end"))
        self.raises(BadProgram, [(0,)], read_program, text_of("put h : none"))
        self.raises(BadProgram, [(0,)], read_program, text_of("put out 1 2 : none"))
        self.raises(BadProgram, [(0,)], read_program, text_of("put h 1 : 1 + 1 + 1 + 1 + 1"))
        self.raises(BadProgram, [(0,)], read_program, text_of("put h 1 : 1001"))
        # What is wrong in the text comes first, wherever it stands.
        self.is_bad(3, "table t a\ntable t b\nend")
        self.is_bad(4, "table t a a\nblock t : s\nput z : none\nwhat")

    def test_many_open_bodies(self):
        for many in (9, 60):
            rows = [*["same 1 1"] * many, "put h 1 : none", *["end"] * many]
            self.raises(BadProgram, [(0,) * 9], read_program, text_of(*rows))
            self.is_bad(4 + len(rows), text_of(*rows[:-1]))
            self.is_bad(5 + len(rows), text_of(*rows, "end"))
        rows = [*["same 1 1"] * 7, "put h 1 : none", *["end"] * 7]
        self.assertEqual(write_program(read_program(text_of(*rows))), text_of(*rows))

    def test_drawn_texts(self):
        source = random.Random(43)
        wrong = right = 0
        for _ in range(400):
            text = write_program(wide.program(source))
            for _ in range(5):
                text = written.spoiled(source, text)
                at = written.first_wrong_of_program(text)
                if at is None:
                    right += 1
                    self.reads_or_not(text)
                else:
                    wrong += 1
                    self.is_bad(at, text)
        self.assertTrue(min(wrong, right) > 100, (wrong, right))

    def reads_or_not(self, text):
        """The text is right; perhaps the program is not."""
        try:
            program = read_program(text)
        except MetError as error:
            self.assertIn(error.__class__, (BadShape, BadBlock, BadProgram))
            return
        self.assertEqual(write_program(program), text)


if __name__ == "__main__":
    unittest.main()
