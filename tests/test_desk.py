"""[45]: the desk."""

import unittest

from bagkinds.desk import Desk
from bagkinds.errors import BadBook, BadFormula, BadForm, BadLine, TooMany, UnknownNumber
from bagkinds.keeping import Keeper
from bagkinds.questions import answers, follows
from bagkinds.tables import greatest_table
from bagkinds.texts import read_book, read_formula, write_book
from tests.test_tables import ELEVEN, WIDE, wide_forms

TEXT = """sorts 2
relation r 0 0
relation p 0
relation u 1
some p(0) &() r(0,1) p(1)
all r(0,1) !r(1,0)
name 0
name 0
name 1
fact p(0)
fact r(0,1)"""
LAST = "\nfact r(0,1)"


class DeskCase(unittest.TestCase):
    def refused(self, desk, error, asked, **marks):
        """A line that is refused leaves the desk as it was."""
        before = (desk.answer("book"), len(desk.keeper), desk.keeper.book)
        with self.assertRaises(error, msg=asked) as caught:
            desk.answer(asked)
        self.assertIs(type(caught.exception), error)
        for name, value in marks.items():
            self.assertEqual(getattr(caught.exception, name), value)
        self.assertEqual((desk.answer("book"), len(desk.keeper), desk.keeper.book), before)


class AnswersTest(DeskCase):
    def test_book_store_table(self):
        desk = Desk(TEXT)
        self.assertIsInstance(desk.keeper, Keeper)
        self.assertEqual(desk.answer("book"), TEXT)
        self.assertEqual(Desk(text=TEXT).answer(line="book"), TEXT)
        self.assertEqual(desk.answer("store"), "yes")
        self.assertEqual(desk.answer("table"), str(len(greatest_table(*read_book(TEXT)[:2]))))
        self.assertEqual(Desk("sorts 1").answer("table"), "1")
        self.assertEqual(Desk("sorts 1\nfact |()").answer("store"), "no")

    def test_errors_of_the_text(self):
        with self.assertRaises(BadLine) as caught:
            Desk(TEXT + "\n")
        self.assertEqual(caught.exception.line, 12)
        with self.assertRaises(BadBook) as caught:
            Desk(TEXT + "\nfact u(0)")
        self.assertEqual(caught.exception.part, "facts")

    def test_follows(self):
        desk = Desk(TEXT)
        book = read_book(TEXT)
        for text in ("r(0,1)", "r(1,0)", "!r(1,0)", "E(5;r(0,5);p(5))", "E(5;r(1,5);p(5))", "A(5;r(0,5);!r(5,0))", "&()", "|()",
                     "0=1", "!0=1", "E(9;:1(9);&())", "E(9;:1(9);u(9))", "A(0;:0(0);p(0))"):
            question = read_formula(book[0], text)
            self.assertEqual(desk.answer("follows " + text), "yes" if follows(book, question)[0] else "no")
        self.assertEqual(desk.answer("follows !r(1,0)"), "yes")
        self.assertEqual(desk.answer("follows p(1)"), "no")

    def test_sure_and_possible(self):
        desk = Desk(TEXT)
        book = read_book(TEXT)
        self.assertEqual(desk.answer("sure p(3) 3"), "0")
        self.assertEqual(desk.answer("possible p(3) 3"), "0 1")
        self.assertEqual(desk.answer("sure r(7,3) 7,3"), "0,1")
        self.assertEqual(desk.answer("sure r(7,3) 3,7"), "1,0")
        self.assertEqual(desk.answer("sure u(0) 0"), "none")
        self.assertEqual(desk.answer("possible u(0) 0"), "2")
        self.assertEqual(desk.answer("possible &(p(0),!p(0)) 0"), "none")
        for text, terms in (("E(5;r(4,5);p(5))", (4,)), ("&(r(1,2),p(2))", (2, 1)), ("|(r(1,2),u(3))", (3, 1, 2)),
                            ("A(0;r(99,0);p(0))", (99,))):
            told = answers(book, read_formula(book[0], text), terms)
            for word, rows in zip(("sure", "possible"), told):
                wanted = " ".join(",".join(map(str, row)) for row in rows) or "none"
                self.assertEqual(desk.answer(f"{word} {text} {','.join(map(str, terms))}"), wanted)

    def test_a_book_without_a_store(self):
        desk = Desk(TEXT + "\nfact |()")
        self.assertEqual(desk.answer("store"), "no")
        self.assertEqual(desk.answer("follows |()"), "yes")
        self.assertEqual(desk.answer("sure u(4) 4"), "2")
        self.assertEqual(desk.answer("possible u(4) 4"), "none")


class ChangesTest(DeskCase):
    def test_changes(self):
        desk = Desk(TEXT)
        for line, text in (
            ("form once u(0) &()", TEXT.replace("\nname 0\nname 0", "\nonce u(0) &()\nname 0\nname 0")), ("undo", TEXT),
            ("form all :0(7) |(p(7),!p(7))", TEXT.replace("\nname 0\nname 0", "\nall :0(7) |(p(7),!p(7))\nname 0\nname 0")),
            ("undo", TEXT), ("drop form 1", TEXT.replace("\nall r(0,1) !r(1,0)", "")), ("undo", TEXT),
            ("drop fact 1", TEXT.replace(LAST, "")), ("fact r(0,1)", TEXT), ("name 0", TEXT.replace("name 1", "name 1\nname 0")),
            ("drop name", TEXT), ("drop name", TEXT.replace("\nname 1", "")), ("undo", TEXT), ("fact &(!r(1,0),0=0)", TEXT +
            "\nfact &(!r(1,0),0=0)"),
        ):
            self.assertEqual(desk.answer(line), "done")
            self.assertEqual(desk.answer("book"), text)
            self.assertEqual(read_book(text), desk.keeper.book)
        self.assertEqual(len(desk.keeper), 5)
        for _ in range(5):
            desk.answer("undo")
        self.assertEqual(desk.answer("book"), TEXT)
        self.refused(desk, UnknownNumber, "undo")

    def test_errors_of_the_keeper(self):
        desk = Desk(TEXT)
        for line in ("drop form 2", "drop form 999", "drop fact 2", "undo"):
            self.refused(desk, UnknownNumber, line)
        for line in ("form all r(0,1) 0=2", "form all :2(0) &()", "form once u(0) r(0,0)", "form some r(0,1) &() r(0,1) &()"):
            self.refused(desk, BadForm, line)
        for line in ("fact r(0,2)", "fact u(0)", "fact 3=3", "fact r(0,5)"):
            self.refused(desk, BadBook, line, part="facts")
        for line in ("name 2", "name 999"):
            self.refused(desk, BadBook, line, part="names")
        desk.answer("drop name")
        self.refused(desk, BadBook, "drop name", part="facts")
        full = Desk("sorts 1" + "\nall :0(0) &()" * 80 + "\nname 0" * 12 + "\nfact &()" * 80)
        self.refused(full, BadBook, "form all :0(0) &()", part="forms")
        self.refused(full, BadForm, "form all :1(0) &()")
        self.refused(full, BadBook, "name 0", part="names")
        self.refused(full, BadBook, "fact &()", part="facts")
        empty = Desk("sorts 1")
        self.refused(empty, UnknownNumber, "drop name")


class LinesTest(DeskCase):
    def test_lines_of_other_forms(self):
        desk = Desk(TEXT)
        for line in (
            "", " ", "book ", " book", "Book", "book book", "store 1", "tables", "undo 1", "undo\n", "\nbook", "book\nbook", "drop",
            "drop  name", "drop name 0", "drop name ", "drop form", "drop form -1", "drop form 00", "drop form 1000", "drop form 1 1",
            "drop form a", "drop fact 01", "drop facts 0", "drop sort 0", "drop fact 0\n", "name", "name 00", "name 1000", "name x",
            "name 0 0", "name 0\n", "fact", "fact ", "form", "form ", "form form all :0(0) &()", "all :0(0) &()", "follows", "follows ",
            "follows r(0,1) 0", "follows  r(0,1)", "follows r(0,1) ", "follows r(0,1)\n", "sure p(3)", "sure p(3) ", "sure 3", "sure p(3)  3",
            "sure p(3) 3 ", "sure p(3) 3,", "sure p(3) ,3", "sure p(3) 3,,4", "sure p(3) 03", "sure p(3) 1000", "sure p(3) a", "sure p(3) -3",
            "sure p(3) 3\n", "possible p(3)", "possible p(3) 3 4", "possible p(3) 3;4", "possible p(3) (3)", "Sure p(3) 3", "sorts 2",
            "relation q 0", "follow r(0,1)", "keeper", "len", "drop form 0,1",
        ):
            self.refused(desk, BadLine, line, line=1)

    def test_formulas_that_are_not_read(self):
        desk = Desk(TEXT)
        for text in ("r(0)", "q(0)", ":0(0)", "r(0,1", "0=100", "E(1,0;r(0,1);&())", "!" * 12 + "&()", "&(" + ",".join(["0=0"] * 200) + ")"):
            for line in ("follows " + text, "sure " + text + " 0", "possible " + text + " 0", "fact " + text, "form all :0(0) " + text,
                         "form once :0(0) " + text):
                self.refused(desk, BadLine, line, line=1)
        for line in ("fact E(5;:0(5);&())", "form all &() &()", "form all r(0,1) E(5;:0(5);&())", "form once 0=0 &()",
                     "form some r(0,1) &() &() &()", "form some r(0,1) A(5;:0(5);&()) r(1,2) &()", "form all :0(0)", "form once :0(0) &() &()",
                     "form some r(0,1) &() r(1,2)"):
            self.refused(desk, BadLine, line, line=1)

    def test_2000_characters(self):
        book = "sorts 1\nrelation abcdefgh 0 0\nonce :0(0) |()"
        row = "&(" + ",".join(["abcdefgh(10,11)"] * 124)
        right, wrong = row + ",abcdefgh(0,1))", row + ",abcdefgh(0,10))"
        self.assertEqual((len(right), len(wrong)), (2000, 2001))
        desk = Desk(book + "\nname 0" * 12)
        self.assertEqual(desk.answer("follows " + right), "yes")
        self.refused(desk, BadLine, "follows " + wrong, line=1)
        few = Desk(book + "\nname 0" * 2)
        self.assertEqual(few.answer("possible " + right + " 0,1,10,11"), "none")
        for word in ("sure ", "possible "):
            self.refused(few, BadLine, word + wrong + " 0,10,11", line=1)
        # the bound is not asked for forms and facts
        self.assertEqual(desk.answer("fact " + wrong), "done")
        self.assertEqual(desk.answer("form all abcdefgh(10,11) " + wrong.replace("(0,10)", "(10,10)")), "done")
        self.assertEqual(read_book(desk.answer("book")), desk.keeper.book)

    def test_wrong_questions(self):
        desk = Desk(TEXT)
        for text in ("r(0,2)", "r(0,3)", "3=3", "u(0)", "0=2", "E(5;:2(5);&())", "E(5;r(0,5);p(6))",
                     "&(p(0),E(0;:0(0);p(0)))", "E(5;p(0);&())", "E(5,6;:0(5);&())", "E(5;:0(5);E(5;:0(5);&()))", "E(5;:999(5);&())",
                     "!" * 9 + "&()", "!" * 8 + "E(5;:0(5);&())", "&(" + ",".join(["0=0"] * 150) + ")"):
            self.refused(desk, BadFormula, "follows " + text)
        for text in ("!" * 8 + "&()", "!" * 7 + "E(5;:0(5);&())", "&(" + ",".join(["0=0"] * 149) + ")"):
            self.assertIn(desk.answer("follows " + text), ("yes", "no"))

    def test_wrong_terms(self):
        desk = Desk(TEXT)
        for line in (
            "p(3) 4", "p(3) 3,4", "p(3) 3,3", "r(3,4) 3", "r(3,4) 4", "r(3,4) 3,4,5", "r(3,3) 3,3", "p(3) 999", "&() 0", "&() 3", "0=1 0,1",
            "|(p(3),3=4) 3,4", "&(r(1,2),r(3,4),p(5)) 1,2,3,4,5", "&(r(1,2),r(3,4)) 1,2,3", "E(3;:0(3);&()) 3", "E(3;r(3,4);&()) 3",
            "E(3;r(3,4);&()) 3,4", "&(p(3),u(3)) 3", "&(p(3),u(4),3=4) 3,4", "r(3,4) 3,4,3,4,3", "E(5;:2(5);&()) 0",
            "&(" + ",".join(["p(3)"] * 150) + ") 3", "!" * 9 + "p(3) 3", "&(p(3),E(3;:0(3);&())) 3",
        ):
            for word in ("sure ", "possible "):
                self.refused(desk, BadFormula, word + line)
        for line in ("&(r(1,2),r(3,4)) 4,3,2,1", "!" * 8 + "p(3) 3", "|(p(3),r(3,4),3=4) 3,4", "&(" + ",".join(["p(3)"] * 149) + ") 3"):
            self.assertNotEqual(desk.answer("possible " + line), "")

    def test_order_of_errors(self):
        big = Desk(write_book((ELEVEN, (), (0,), ())))
        for line in ("store", "table", "follows &()", "follows na(0)", "sure na(3) 3", "possible na(3) 3"):
            self.refused_by_size(big, TooMany, line)
        for line in ("follows na(1)", "follows E(4;:1(4);&())", "sure na(3) 4", "possible &() 4"):
            self.refused_by_size(big, BadFormula, line)
        for line in ("follows zz(0)", "sure na(3) 3,", "possible &(", "store "):
            self.refused_by_size(big, BadLine, line)
        for line in ("fact na(0)", "name 0", "form all :0(0) na(0)", "drop form 0", "drop fact 0", "drop name", "undo"):
            self.assertEqual(big.answer(line), "done")
        wide = Desk(write_book((WIDE, wide_forms(475), (), ())))
        self.refused_by_size(wide, TooMany, "table")
        self.refused_by_size(wide, UnknownNumber, "drop form 1")

    def refused_by_size(self, desk, error, line):
        before = desk.answer("book")
        with self.assertRaises(error) as caught:
            desk.answer(line)
        self.assertIs(type(caught.exception), error)
        self.assertEqual(desk.answer("book"), before)

    def test_too_many_of_questions(self):
        desk = Desk(TEXT)
        seven = "&(" + ",".join(f"E({number};p({number});&())" for number in range(20, 27)) + ")"
        self.refused(desk, TooMany, "follows " + seven)
        names = Desk("sorts 1\nrelation p 0\nrelation r 0 0" + "\nname 0" * 6)
        self.refused(names, TooMany, "sure &(r(1,2),p(3)) 1,2,3")
        self.assertEqual(names.answer("possible |(r(1,2),p(1)) 1,2").count(" "), 35)


if __name__ == "__main__":
    unittest.main()
