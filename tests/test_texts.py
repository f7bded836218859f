"""[43], [44]: formulas, forms and books as texts."""

import itertools
import unittest

from bagkinds.books import check_book
from bagkinds.errors import BadBook, BadLine, BadText
from bagkinds.texts import read_book, read_formula, write_book, write_formula
from tests.helpers import FALSE, MIXED, TRUE, Maker, atom, bend, both, broad, either, neg, slow_shape, sort
from tests.slow import SMALL, TWO, made_book

# names of which one is the beginning of another
NAMES = (2, (("r", (0, 0)), ("rr", (0,)), ("re", (1, 0, 0, 1)), ("abcdefgh", (1,))))

TEXTS = (
    (atom(0, 0, 1), "r(0,1)"), (atom(1, 99), "rr(99)"), (atom(2, 10, 0, 7, 7), "re(10,0,7,7)"), (atom(3, 5), "abcdefgh(5)"),
    (("equal", 0, 1), "0=1"), (("equal", 99, 10), "99=10"), (neg(atom(1, 2)), "!rr(2)"), (neg(neg(TRUE)), "!!&()"),
    (TRUE, "&()"), (FALSE, "|()"), (both(atom(1, 0)), "&(rr(0))"), (either(TRUE, ("equal", 3, 3), FALSE), "|(&(),3=3,|())"),
    (("some", (0,), sort(1, 0), TRUE), "E(0;:1(0);&())"), (("all", (3, 20), atom(0, 20, 3), neg(TRUE)), "A(3,20;r(20,3);!&())"),
    (("all", (1,), atom(1, 1), ("some", (2, 3, 4), atom(2, 2, 3, 4, 1), either(("equal", 2, 1)))),
     "A(1;rr(1);E(2,3,4;re(2,3,4,1);|(2=1)))"),
    (("some", (0,), sort(9, 0), TRUE), "E(0;:9(0);&())"), (("some", (5,), sort(0, 7), TRUE), "E(5;:0(7);&())"),
    (("some", (0,), sort(999, 99), TRUE), "E(0;:999(99);&())"), (("all", (0,), atom(0, 1, 2), ("equal", 3, 4)), "A(0;r(1,2);3=4)"),
)

WRONG = (
    "", " ", "r", "r()", "r(0)", "r(0,1,2)", "r(0,1", "r(0,1))", "r(0,1)r(0,1)", "r0,1)", "(0,1)", "r(0 ,1)", " r(0,1)", "r(0,1) ",
    "r (0,1)", "r(,1)", "r(0,)", "r(0,,1)", "r(00,1)", "r(0,01)", "r(0,100)", "r(0,1000)", "r(0,-1)", "r(0,+1)", "r(0,a)", "R(0,1)",
    "s(0,1)", "rrr(0)", "rrr(0,1)", "abcdefg(0)", "abcdefghi(0)", "e(0)", "0=", "=0", "0", "0==1", "0=1=2", "00=1", "0=100", "100=0",
    "0=0000", "0=1,", "!", "!!", "!()", "!(0=1)", "0!=1", "&", "&(", "&)", "&(,)", "&(0=1,)", "&(,0=1)", "&(0=1;0=1)", "&(0=1", "&()()",
    "|", "|(", "|()|()", "&(:0(0))", ":0(0)", "!:0(0)", "E(;:0(0);&())", "E(0;:0(0))", "E(0;:0(0);)", "E(0;:0(0);&();&())", "E(:0(0);&())",
    "E(0,:0(0),&())", "E(1,0;r(0,1);&())", "E(0,0;r(0,0);&())", "E(0;0=0;&())", "E(0;&();&())", "E(0;!rr(0);&())", "E(0;E(1;:0(1);&());&())",
    "E(0;:0(0);:0(0))", "E(0;:00(0);&())", "E(0;:1000(0);&())", "E(0;:0(100);&())", "E(0;:0(0,1);&())", "E(0;:0();&())", "E(0;:(0);&())",
    "E(0;r(0);&())", "E(100;:0(0);&())", "E(0 1;r(0,1);&())", "E[0;:0(0);&()]", "e(0;:0(0);&())", "a(0;:0(0);&())", "X(0;:0(0);&())",
    "A(0;:0(0);&()", "A(0;:0(0);&()))", "0=1\n", "\n0=1", "0=\t1", "&(0=1, 0=1)", "\u0660=1", "0=\u00b2", "<>", "r(0;1)", "^()", "-",
)


class FormulaTest(unittest.TestCase):
    def test_texts(self):
        for formula, text in TEXTS:
            self.assertEqual(write_formula(NAMES, formula), text)
            self.assertEqual(read_formula(NAMES, text), formula)
        self.assertEqual(write_formula(language=NAMES, formula=TRUE), read_and_write("&()"))
        self.assertEqual(read_formula(language=NAMES, text="0=1"), ("equal", 0, 1))

    def test_wrong(self):
        for text in WRONG:
            with self.assertRaises(BadText, msg=text):
                read_formula(NAMES, text)

    def test_small_changes(self):
        """Whatever is read has just this text, and is a formula in its shape."""
        signs = "01259=!&|EA:;,()re \n"
        wide = (4, NAMES[1])
        seen = 0
        for _, text in TEXTS:
            for place in range(len(text) + 1):
                for changed in [text[:place] + text[place + 1:]] + [text[:place] + sign + text[place + more:]
                                                                  for sign in signs for more in (0, 1)]:
                    try:
                        formula = read_formula(NAMES, changed)
                    except BadText:
                        continue
                    seen += 1
                    self.assertEqual(write_formula(NAMES, formula), changed)
                    if ":9" not in changed and ":5" not in changed:
                        self.assertTrue(slow_shape(wide, formula, 12) or ":" in changed)
        self.assertGreater(seen, 100)

    def test_made(self):
        for seed in range(400):
            language = (SMALL, TWO, MIXED)[seed % 3]
            formula = Maker(language, seed).sentence(4)
            text = write_formula(language, formula)
            self.assertNotIn(" ", text)
            if len(text) <= 2000:
                self.assertEqual(read_formula(language, text), formula)

    def test_2000_and_2001_characters(self):
        row = ",".join(["re(10,20,30,40)"] * 124)
        for more, many in ((",rr(1),rr(10)", 1999), (",rr(10),rr(10)", 2000), (",r(1,10),rr(10)", 2001), (",r(10,10),rr(10)", 2002)):
            text = "&(" + row + more + ")"
            self.assertEqual(len(text), many)
            if many <= 2000:
                self.assertEqual(write_formula(NAMES, read_formula(NAMES, text)), text)
            else:
                with self.assertRaises(BadText):
                    read_formula(NAMES, text)
                # the bound is not asked within the lines of a book
                lines = "sorts 1\nrelation r 0 0\nrelation rr 0\nrelation re 0 0 0 0\nfact "
                with self.assertRaises(BadBook):
                    read_book(lines + text)

    def test_levels_and_parts(self):
        for formula, right in (
            (bend(12, TRUE), True), (bend(13, TRUE), False), (bend(12, atom(0, 0, 1)), True), (bend(13, ("equal", 0, 1)), False),
            (wrapped(10, ("some", (0,), sort(0, 0), TRUE)), True),
            (wrapped(11, ("some", (0,), sort(0, 0), TRUE)), False), (broad(200, TRUE), True), (broad(201, TRUE), False),
            (both(*[("some", (0,), sort(0, 0), TRUE)] * 66, TRUE), True), (both(*[("some", (0,), sort(0, 0), TRUE)] * 67), False),
            (wrapped(1900, TRUE), False),
        ):
            text = write_deep(formula)
            self.assertLessEqual(len(text), 2000)
            if right:
                self.assertEqual(read_formula(NAMES, text), formula)
            else:
                with self.assertRaises(BadText):
                    read_formula(NAMES, text)


def read_and_write(text):
    return write_formula(NAMES, read_formula(NAMES, text))


def wrapped(many, formula):
    for _ in range(many):
        formula = neg(formula)
    return formula


def write_deep(formula):
    many = 0
    while formula[0] == "not":
        formula, many = formula[1], many + 1
    return "!" * many + write_formula(NAMES, formula)


BOOK = (
    (2, (("r", (0, 0)), ("t", (0, 1, 1, 0)), ("u", (1,)))),
    (("all", atom(0, 0, 1), neg(atom(0, 1, 0))), ("some", sort(1, 3), TRUE, atom(1, 5, 3, 3, 6), both(atom(0, 5, 6), FALSE)),
     ("once", atom(2, 9), either(atom(2, 9), ("equal", 9, 9)))),
    (0, 0, 1), (atom(0, 0, 1), neg(("equal", 0, 1)), TRUE),
)
TEXT = """sorts 2
relation r 0 0
relation t 0 1 1 0
relation u 1
all r(0,1) !r(1,0)
some :1(3) &() t(5,3,3,6) &(r(5,6),|())
once u(9) |(u(9),9=9)
name 0
name 0
name 1
fact r(0,1)
fact !0=1
fact &()"""
LINES = tuple(TEXT.split("\n"))


class BookTest(unittest.TestCase):
    def wrong(self, lines, number):
        with self.assertRaises(BadLine) as caught:
            read_book("\n".join(lines))
        self.assertEqual(caught.exception.line, number)

    def bad(self, lines, part):
        with self.assertRaises(BadBook) as caught:
            read_book("\n".join(lines))
        self.assertEqual(caught.exception.part, part)

    def test_book(self):
        check_book(BOOK)
        self.assertEqual(write_book(BOOK), TEXT)
        self.assertEqual(read_book(TEXT), BOOK)
        self.assertEqual(write_book(book=BOOK), TEXT)
        self.assertEqual(read_book(text=TEXT), BOOK)
        self.assertEqual(read_book("sorts 1"), ((1, ()), (), (), ()))
        self.assertEqual(write_book(((4, ()), (), (), ())), "sorts 4")

    def test_made(self):
        for seed in range(200):
            book = made_book((SMALL, TWO)[seed % 2], seed, 6, 4, 5)
            self.assertEqual(read_book(write_book(book)), book)

    def test_lines_of_other_forms(self):
        for line in ("", " ", "x", "form all r(0,1) &()", "relation", "Name 0", "name", "fact", "all", "some", "once", "sorts 2", "sorts"):
            for place in range(len(LINES) + 1):
                self.wrong(LINES[:place] + (line,) + LINES[place:], place + 1 if place or line != "sorts 2" else 2)
        self.wrong((), 1)
        self.wrong(LINES[1:], 1)
        self.wrong(LINES + ("",), len(LINES) + 1)
        self.wrong(("sorts 2\r",), 1)

    def test_spaces(self):
        for place, line in enumerate(LINES):
            for changed in [line + " ", " " + line] + [line[:at] + " " + line[at:] for at, sign in enumerate(line) if sign == " "]:
                self.wrong(LINES[:place] + (changed,) + LINES[place + 1:], place + 1)

    def test_numbers(self):
        for number in ("", "00", "01", "1000", "-1", "+1", "a", "1a", "1.", "0x1", "1_0", "\u0661"):
            self.wrong(("sorts " + number,), 1)
            self.wrong(("sorts 1", "name " + number), 2)
            self.wrong(("sorts 1", "relation r " + number), 2)
            self.wrong(("sorts 1", "relation r 0 0 " + number), 2)
        for lines, part in ((("sorts 0",), "language"), (("sorts 5",), "language"), (("sorts 999",), "language"),
                            (("sorts 1", "name 1"), "names"), (("sorts 1", "name 999"), "names"),
                            (("sorts 1", "relation r 1"), "language"), (("sorts 1", "relation r 999"), "language")):
            self.bad(lines, part)
        self.wrong(("sorts 1 1",), 1)
        self.wrong(("sorts 1", "name 0 0"), 2)

    def test_relations(self):
        for line in ("relation r", "relation r 0 0 0 0 0", "relation R 0", "relation abcdefghi 0", "relation 0 0", "relation r1 0",
                     "relation r,0", "relation r(0)", "relation  0"):
            self.wrong(("sorts 1", line), 2)
        self.assertEqual(read_book("sorts 1\nrelation abcdefgh 0 0 0 0")[0], (1, (("abcdefgh", (0, 0, 0, 0)),)))
        many = tuple("relation " + 2 * letter + " 0" for letter in "abcdefghijklmnopq")
        self.assertEqual(len(read_book("\n".join(("sorts 1",) + many[:16]))[0][1]), 16)
        self.bad(("sorts 1",) + many, "language")
        self.bad(("sorts 1",) + many + ("fact qq(0)",), "language")

    def test_two_relations_of_one_name(self):
        lines = ("sorts 1", "relation r 0 0", "relation r 0")
        self.bad(lines, "language")
        self.bad(lines + ("all r(0,1) &()",), "language")
        self.wrong(lines + ("all r(0) &()",), 4)

    def test_order(self):
        kinds = (LINES[1:4], LINES[4:7], LINES[7:10], LINES[10:])
        for first, second in itertools.combinations(range(4), 2):
            lines = LINES[:1] + kinds[0]
            lines = lines + (kinds[second] + kinds[first] if first else kinds[second] + LINES[1:2])
            self.wrong(lines, 5 + len(kinds[second]))
        self.wrong(LINES[1:2] + LINES[:1], 1)
        self.wrong(LINES[:1] + LINES[:1], 2)

    def test_formulas_in_lines(self):
        for line in ("all r(0,1) r(0)", "all r(0) &()", "all &() &()", "all !r(0,1) &()", "all 0=1 &()", "all r(0,1) :0(0)",
                     "all r(0,1) E(4;:0(4);&())", "all r(0,1)", "all r(0,1) &() &()", "all E(4;:0(4);&()) &()", "all x(0) &()",
                     "some r(0,1) &() r(1,2)", "some r(0,1) &() &() &()", "some r(0,1) r(0,1) r(1,2) E(4;:0(4);&())",
                     "some r(0,1) A(4;:0(4);&()) r(1,2) &()", "some r(0,1) &() r(1,2) &() &()", "once &() &()", "once r(0,1)",
                     "once :0(0) &() &()", "once :0(0) E(4;:0(4);&())", "all :0(0) " + "!" * 12 + "&()", "once :0(100) &()",
                     "once :0(0) &(" + ",".join(["0=0"] * 200) + ")"):
            self.wrong(LINES[:4] + (line,) + LINES[5:], 5)
        for line in ("fact E(4;:0(4);&())", "fact :0(0)", "fact r(0)", "fact &() &()", "fact 0=100", "fact 0=1 ", "fact"):
            self.wrong(LINES[:10] + (line,), 11)

    def test_what_is_left_to_check_book(self):
        for line in ("all :2(0) &()", "all :9(0) &()", "all r(0,1) 0=2", "some r(0,1) &() r(0,1) &()", "once u(0) r(0,0)", "once :0(0) 1=1"):
            self.bad(LINES[:4] + (line,), "forms")
        for line in ("fact r(0,2)", "fact 0=3", "fact 99=99"):
            self.bad(LINES[:10] + (line,), "facts")
        # the first part that is wrong, and lines ahead of parts
        self.bad(LINES[:4] + ("once u(0) r(0,0)", "name 7", "fact 0=99"), "forms")
        self.bad(("sorts 9", "relation r 0", "once r(0) 1=1"), "language")
        self.wrong(("sorts 9", "relation r 0", "once r(0) 1=1", "name x"), 4)

    def test_sizes(self):
        for many, part in ((80, None), (81, "forms")):
            lines = ("sorts 1", "relation p 0") + ("all :0(0) &(" + ",".join(["p(0)"] * 199) + ")",) * many
            if part is None:
                self.assertEqual(len(read_book("\n".join(lines))[1]), 80)
            else:
                self.bad(lines, part)
        self.bad(("sorts 1",) + ("name 0",) * 13, "names")
        self.bad(("sorts 1",) + ("fact &()",) * 81, "facts")
        whole = ("sorts 1", "relation abcdefgh 0 0 0 0") + ("name 0",) * 12
        fact = "fact &(" + ",".join(["abcdefgh(10,11,10,11)"] * 199) + ")"
        book = read_book("\n".join(whole + (fact,) * 80))
        self.assertEqual(write_book(book), "\n".join(whole + (fact,) * 80))


if __name__ == "__main__":
    unittest.main()
