"""[2] and [4], and the errors of the interface."""

import unittest

from bagkinds import errors
from bagkinds.errors import BadLanguage
from bagkinds.languages import check_language, relation_number, width
from tests.helpers import JUNK, MIXED, deep, replaced


class ErrorsTest(unittest.TestCase):
    def test_errors_without_arguments(self):
        for name in ("BadFormula", "BadForm", "BadStore", "TooMany", "BadText", "UnknownNumber"):
            made = getattr(errors, name)
            self.assertEqual(made.__bases__, (errors.BagError,))
            self.assertIsInstance(made(), errors.BagError)

    def test_errors_with_an_attribute(self):
        for name, attribute in (("BadLanguage", "at"), ("BadBook", "part"), ("NotPlain", "number"), ("BadLine", "line")):
            made = getattr(errors, name)
            self.assertEqual(made.__bases__, (errors.BagError,))
            self.assertEqual(getattr(made(7), attribute), 7)
            self.assertEqual(getattr(made(**{attribute: "x"}), attribute), "x")

    def test_base(self):
        self.assertEqual(errors.BagError.__bases__, (ValueError,))


class CheckLanguageTest(unittest.TestCase):
    def wrong_at(self, value):
        with self.assertRaises(BadLanguage) as caught:
            check_language(value)
        return caught.exception.at

    def test_right(self):
        self.assertIsNone(check_language(MIXED))
        self.assertIsNone(check_language(value=(1, ())))
        self.assertIsNone(check_language((4, (("a", (3,)), ("zzzzzzzz", (0, 1, 2, 3))))))
        sixteen = tuple(("n" + letter, (0,)) for letter in "abcdefghijklmnop")
        self.assertIsNone(check_language((1, sixteen)))

    def test_sorts(self):
        for sorts in (0, 5, -1, True, False, None, "1", (), (1,), 10 ** 59):
            self.assertEqual(self.wrong_at((sorts, ())), -1)
            self.assertEqual(self.wrong_at((sorts, (("r", ()),))), -1)

    def test_outline(self):
        for value in (None, True, 1, "ab", (), (1,), (1, None), (1, "ab"), (1, 2), (1, (), ()), deep(30), (0,) * 19000):
            self.assertEqual(self.wrong_at(value), -1)

    def test_seventeen_relations_come_first(self):
        many = tuple(("n" + letter, (0,)) for letter in "abcdefghijklmnopq")
        self.assertEqual(self.wrong_at((1, many)), -1)
        self.assertEqual(self.wrong_at((1, (None,) + many[1:])), -1)

    def test_names(self):
        right = ("r", (0,))
        for name in ("", "abcdefghi", "A", "a1", "a b", "a_", "\u00e9", "aB", None, 3, True, ("r",), deep(28), "r"):
            self.assertEqual(self.wrong_at((1, (right, (name, (0,)), (name, (0,))))), 1, name)
        self.assertEqual(self.wrong_at((1, (right, ("s", (0,)), right))), 2)

    def test_places(self):
        for places in ((), (0,) * 5, (2,), (-1,), (True,), (0, False), (0, None), ("0",), None, "0", 0, [0], (10 ** 59,)):
            self.assertEqual(self.wrong_at((2, (("a", (1, 0)), ("r", places)))), 1, places)
        self.assertIsNone(check_language((2, (("r", (0,) * 4), ("s", (1,) * 1)))))

    def test_relations_that_are_no_pairs(self):
        for relation in (None, "ab", ("r",), ("r", (0,), 0), 7, True, (), deep(28)):
            self.assertEqual(self.wrong_at((1, (("a", (0,)), relation, None))), 1)

    def test_first_wrong_relation_is_told(self):
        for number in range(6):
            for fresh in JUNK:
                self.assertEqual(self.wrong_at(replaced(MIXED, (1, number), fresh)), number)
                self.assertEqual(self.wrong_at(replaced(MIXED, (1, number, 0), fresh)), number)
                self.assertEqual(self.wrong_at(replaced(MIXED, (1, number, 1), fresh)), number)
                self.assertEqual(self.wrong_at(replaced(MIXED, (1, number, 1, 0), fresh)), number)


class WidthTest(unittest.TestCase):
    def test_width(self):
        self.assertEqual(width(MIXED), 4)
        self.assertEqual(width(language=(1, (("p", (0,)), ("r", (0, 0)), ("q", (0,))))), 2)
        self.assertEqual(width((4, ())), 1)

    def test_relation_number(self):
        self.assertEqual(relation_number(MIXED, "r"), 0)
        self.assertEqual(relation_number(language=MIXED, name="d"), 5)
        self.assertIsNone(relation_number(MIXED, "z"))
        self.assertIsNone(relation_number((1, ()), ""))


if __name__ == "__main__":
    unittest.main()
