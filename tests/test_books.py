"""[17]: books, the stores that keep them, and books of sentences."""

import itertools
import unittest

from bagkinds.books import book_of, check_book, keeps_book
from bagkinds.errors import BadBook, BagError, TooMany
from bagkinds.forms import check_form
from bagkinds.formulas import is_condition
from bagkinds.languages import check_language
from bagkinds.turning import to_forms
from tests.helpers import (
    ARROWS, FALSE, JUNK, MIXED, TRUE, Maker, atom, bend, both, broad, deep, either, is_plain_value, neg, replaced,
    slow_holds, slow_is_formula, sort, spoilt,
)
from tests.slow import SMALL, TWO, all_stores, made_book, slow_keeps
from tests.test_kinds import just
from tests.test_turning import with_new_atoms

ONWARD = ("some", atom(1, 0), TRUE, atom(0, 0, 1), atom(1, 1))
BOOK = (ARROWS, (ONWARD, ("all", atom(0, 0, 1), neg(atom(0, 1, 0)))), (0, 0), (atom(0, 0, 1), neg(("equal", 0, 1))))
PARTS = ("language", "forms", "names", "facts")


def some(number):
    """A switch about things with p."""
    return ("some", (number,), atom(1, number), TRUE)


def next_of(term, fresh):
    """A part with one free term."""
    return ("some", (fresh,), atom(0, term, fresh), TRUE)


class CheckBookTest(unittest.TestCase):
    def part(self, value):
        with self.assertRaises(BadBook) as caught:
            check_book(value)
        return caught.exception.part

    def test_right_books(self):
        self.assertIsNone(check_book(BOOK))
        self.assertIsNone(check_book(value=(ARROWS, (), (), ())))
        self.assertIsNone(check_book(((1, ()), (), (0,), (("equal", 0, 0), TRUE, FALSE))))
        self.assertIsNone(check_book((MIXED, (), (2, 0, 1, 0), (atom(5, 0, 2, 1, 0), ("equal", 1, 3)))))
        for seed in range(200):
            self.assertIsNone(check_book(made_book(MIXED, seed, 4, 4, 4)))

    def test_whole(self):
        for value in JUNK + (BOOK[:3], BOOK + ((),), (), (BOOK,)):
            self.assertEqual(self.part(value), "book")

    def test_each_part_wrong_alone(self):
        wrong = {
            0: (None, (0, ()), (1, ARROWS[1] + ARROWS[1][:1]), (5, ARROWS[1]), (1, (("r", (0, 1)),))),
            1: (None, (None,), (ONWARD, ()), ONWARD, (("all", atom(1, 0), some(1)),), (("all", atom(2, 0), TRUE),)),
            2: (None, 0, (1,), (True,), (0, False), (-1,), (None,), ((0,),), (0,) * 13),
            3: (None, (None,), atom(0, 0, 1), (atom(0, 0, 2),), (atom(2, 0),), (some(2),), (some(0),), (TRUE, ("equal", 0, 2)),
                (atom(0, 0),), (sort(0, 0),), (("atom", 0, (True, False)),), (("atom", False, (0, 1)),)),
        }
        for place, values in wrong.items():
            for value in values + tuple(value for value in JUNK if value != ()):
                self.assertEqual(self.part(replaced(BOOK, (place,), value)), PARTS[place], (place, value))

    def test_two_parts_wrong(self):
        for first, second in itertools.combinations(range(4), 2):
            value = replaced(replaced(BOOK, (first,), None), (second,), None)
            self.assertEqual(self.part(value), PARTS[first])
        self.assertEqual(self.part((None, None, None, None)), "language")
        self.assertEqual(self.part((ARROWS, (), (1,), (atom(0, 0, 5),))), "names")

    def test_sorts_of_names(self):
        self.assertEqual(self.part((TWO, (), (0, 1), (atom(0, 0, 1),))), "facts")
        self.assertIsNone(check_book((TWO, (), (0, 1), (atom(1, 1, 0),))))
        self.assertEqual(self.part((TWO, (), (0, 1), (("equal", 0, 1),))), "facts")
        self.assertIsNone(check_book((TWO, (), (1, 0, 1), (("equal", 0, 2),))))

    def test_bounds(self):
        self.assertIsNone(check_book((ARROWS, (ONWARD,) * 80, (0,) * 12, (atom(1, 11),) * 80)))
        self.assertEqual(self.part((ARROWS, (ONWARD,) * 81, (0,) * 13, (TRUE,) * 81)), "forms")
        self.assertEqual(self.part((ARROWS, (ONWARD,) * 80, (0,) * 13, (TRUE,) * 81)), "names")
        self.assertEqual(self.part((ARROWS, (ONWARD,) * 80, (0,) * 12, (TRUE,) * 81)), "facts")
        self.assertEqual(self.part((ARROWS, (), (0,) * 12, (atom(1, 12),))), "facts")
        self.assertIsNone(check_book((ARROWS, (), (0,), (bend(12, atom(1, 0)), broad(200, atom(1, 0))))))
        self.assertEqual(self.part((ARROWS, (), (0,), (bend(13, atom(1, 0)),))), "facts")
        self.assertEqual(self.part((ARROWS, (), (0,), (broad(201, atom(1, 0)),))), "facts")
        self.assertEqual(self.part((ARROWS, (("all", sort(0, 0), bend(13, atom(1, 0))),), (0,), ())), "forms")

    def test_spoilt(self):
        seen = {}
        for path, value in spoilt(BOOK):
            try:
                check_book(value)
                told = None
            except BadBook as error:
                told = error.part
            self.assertEqual(told, slow_part(value), path)
            seen[told] = seen.get(told, 0) + 1
        self.assertEqual(set(seen), {None, "book", *PARTS})

    def test_other_classes(self):
        class Row(tuple):
            pass
        self.assertEqual(self.part(Row(BOOK)), "book")
        for place in range(4):
            self.assertEqual(self.part(replaced(BOOK, (place,), Row(BOOK[place]))), PARTS[place])

    def test_large_values(self):
        for value in ((TRUE,) * 6000, (("and", (TRUE,) * 6000),), (deep(28),)):
            self.assertEqual(self.part(replaced(BOOK, (3,), value)), "facts")
            self.assertEqual(self.part(replaced(BOOK, (1,), value)), "forms")
        self.assertEqual(self.part((ARROWS, (), (0,) * 19000, ())), "names")
        self.assertEqual(self.part((ARROWS, (), (10 ** 59,), ())), "names")


def slow_part(value):
    """The part of a value that is wrong, one part after the other, or None."""
    if type(value) is not tuple or len(value) != 4:
        return "book"
    language, forms, names, facts = value
    if raises(check_language, language):
        return "language"
    if type(forms) is not tuple or len(forms) > 80 or any(raises(check_form, language, form) for form in forms):
        return "forms"
    if type(names) is not tuple or len(names) > 12:
        return "names"
    if any(type(name) is not int or not 0 <= name < language[0] for name in names):
        return "names"
    free = tuple(enumerate(names))
    if type(facts) is not tuple or len(facts) > 80:
        return "facts"
    return None if all(slow_is_formula(language, fact, free) and is_condition(fact) for fact in facts) else "facts"


def raises(call, *arguments):
    try:
        call(*arguments)
    except BagError:
        return True
    return False


class KeepsBookTest(unittest.TestCase):
    store = ((3,), ((0, (0, 1)), (0, (1, 2)), (0, (2, 0)), (1, (0,)), (1, (1,)), (1, (2,))))

    def test_places(self):
        self.assertIs(keeps_book(BOOK, self.store, (0, 1)), True)
        self.assertIs(keeps_book(book=BOOK, store=self.store, places=(2, 0)), True)
        self.assertIs(keeps_book(BOOK, self.store, (1, 0)), False)
        for places in ((0,), (), (0, 1, 2), (0, 0), (0, 3), (-1, 0), [0, 1], None, 0, "01", (False, True), (0, None),
                       ((0,), (1,)), (2, 10 ** 59)):
            self.assertIs(keeps_book(BOOK, self.store, places), False)

    def test_one_thing_twice(self):
        book = (ARROWS, (), (0, 0), ())
        self.assertIs(keeps_book(book, self.store, (1, 1)), False)
        self.assertIs(keeps_book(book, self.store, (1, 2)), True)

    def test_sorts_of_places(self):
        book = (TWO, (), (1, 0), (atom(1, 0, 1),))
        store = ((2, 1), ((1, (2, 1)),))
        self.assertIs(keeps_book(book, store, (2, 1)), True)
        self.assertIs(keeps_book(book, store, (2, 0)), False)
        self.assertIs(keeps_book((TWO, (), (1, 0), ()), store, (1, 2)), False)
        self.assertIs(keeps_book((TWO, (), (1, 0), ()), store, (0, 1)), False)

    def test_forms_and_facts(self):
        broken = ((3,), self.store[1][:-1])
        self.assertIs(keeps_book(BOOK, broken, (0, 1)), False)
        self.assertIs(keeps_book((ARROWS, (), (), ()), broken, ()), True)
        self.assertIs(keeps_book((ARROWS, (), (), (FALSE,)), broken, ()), False)
        self.assertIs(keeps_book((ARROWS, (("once", atom(1, 0), atom(0, 0, 0)),), (), ()), self.store, ()), False)
        self.assertIs(keeps_book((ARROWS, (), (), ()), ((0,), ()), ()), True)

    def test_made(self):
        seen = [0, 0]
        for seed in range(150):
            book = made_book(SMALL, seed, 2, 2, 2)
            for store in itertools.islice(all_stores(SMALL, 2), 3, 80, 5):
                for places in itertools.permutations(range(store[0][0]), len(book[2])):
                    told = slow_keeps(book, store, places)
                    self.assertIs(keeps_book(book, store, places), told)
                    seen[told] += 1
        self.assertGreater(min(seen), 100)


class BookOfTest(unittest.TestCase):
    def test_one_sentence(self):
        fact = atom(1, 0)
        self.assertEqual(book_of(ARROWS, (), (0,), (fact,)), ((ARROWS, (), (0,), (fact,)),))
        language, cases = to_forms(ARROWS, either(some(0), some(1)))
        told = book_of(ARROWS, (either(some(0), some(1)),), (), ())
        self.assertEqual(told, tuple((language, forms, (), ()) for _, forms in cases))
        self.assertEqual(len(told), 3)

    def test_order_of_books(self):
        first, second = either(some(0), some(1)), ("some", (0,), sort(0, 0), both(next_of(0, 1), either(some(2), TRUE)))
        middle, one = to_forms(ARROWS, first)
        last, two = to_forms(middle, second)
        self.assertEqual((len(one), len(two)), (3, 2))
        told = book_of(language=ARROWS, sentences=(first, second), names=(0,), facts=(TRUE,))
        expected = [(last, one[i][1] + two[j][1], (0,), (TRUE,)) for i in range(3) for j in range(2)]
        self.assertEqual(told, tuple(expected))
        self.assertTrue(is_plain_value(told))

    def test_new_relations_go_on(self):
        sentence = ("some", (0,), sort(0, 0), next_of(0, 1))
        told = book_of(ARROWS, (sentence, sentence), (), ())
        self.assertEqual(len(told), 1)
        self.assertEqual([name for name, _ in told[0][0][1]], ["r", "p", "newa", "newb"])
        self.assertEqual([form[1] for form in told[0][1] if form[0] == "some"], [atom(2, 0), atom(3, 0)])
        # The last language is that of all books, also of forms that came before.
        told = book_of(ARROWS, (some(0), sentence), (), ())
        self.assertEqual(len(told[0][0][1]), 3)

    def test_no_case(self):
        self.assertEqual(book_of(ARROWS, (FALSE,), (0,), ()), ())
        six = either(TRUE, *[some(number) for number in range(6)])
        self.assertEqual(book_of(ARROWS, (six, six, FALSE), (), ()), ())
        self.assertEqual(book_of(ARROWS, (FALSE,) + (six,) * 11, (), ()), ())
        many = [("some", (0,), sort(0, 0), both(*[next_of(0, number + 1) for number in range(count)])) for count in (8, 9)]
        self.assertEqual(book_of(ARROWS, (FALSE, many[0]), (), ()), ())
        for sentences in ((FALSE, many[1]), (many[1], FALSE), (FALSE, either(six, some(6))), (FALSE, many[0], many[0])):
            with self.assertRaises(TooMany):
                book_of(ARROWS, sentences, (), ())

    def test_64_books_and_more(self):
        three = either(TRUE, *[some(number) for number in range(3)])
        self.assertEqual(len(book_of(ARROWS, (three, three), (), ())), 64)
        one = either(TRUE, some(0))
        self.assertEqual(len(book_of(ARROWS, (one,) * 6, (), ())), 64)
        for sentences in ((three, three, one), (one,) * 7, (either(some(0), some(1)), three, three)):
            with self.assertRaises(TooMany):
                book_of(ARROWS, sentences, (), ())
        with self.assertRaises(TooMany):
            book_of(ARROWS, (either(TRUE, *[some(number) for number in range(6)]),) * 12, (), ())
        # sentences with five cases, and with 11 or 13
        five = just(5, [some(number) for number in range(3)])
        self.assertEqual(len(book_of(ARROWS, (five, just(11, [some(number) for number in range(4)])), (), ())), 55)
        with self.assertRaises(TooMany):
            book_of(ARROWS, (five, just(13, [some(number) for number in range(4)])), (), ())

    def test_80_forms_and_more(self):
        six = both(*[some(number) for number in range(6)])
        five, two = both(*[some(number) for number in range(5)]), both(some(0), some(1))
        told = book_of(ARROWS, (six,) * 11 + (both(*six[1][:6]),), (), ())
        self.assertEqual([len(forms) for _, forms, _, _ in told], [72])
        new = ("some", (0,), sort(0, 0), both(*[next_of(0, number + 1) for number in range(8)]))
        # One with 8 new relations has 17 forms.
        self.assertEqual([len(forms) for _, forms, _, _ in book_of(ARROWS, (new,) + (six,) * 10 + (two,), (), ())], [79])
        three = both(some(0), some(1), some(2))
        self.assertEqual([len(forms) for _, forms, _, _ in book_of(ARROWS, (new,) + (six,) * 10 + (three,), (), ())], [80])
        with self.assertRaises(TooMany):
            book_of(ARROWS, (new,) + (six,) * 10 + (both(*five[1][:4]),), (), ())

    def test_twelve_sentences_and_16_relations(self):
        sentence = ("some", (0,), sort(0, 0), next_of(0, 1))
        self.assertEqual(len(book_of(ARROWS, (sentence,) * 12, (), ())[0][0][1]), 14)
        double = ("some", (0,), sort(0, 0), both(next_of(0, 1), next_of(0, 2)))
        self.assertEqual(len(book_of(ARROWS, (double,) * 7, (), ())[0][0][1]), 16)
        with self.assertRaises(TooMany):
            book_of(ARROWS, (double,) * 7 + (sentence,), (), ())

    def test_made(self):
        """A store of the language keeps the sentences exactly if it can be made to keep just one of the books."""
        seen = [0, 0]
        for seed in range(120):
            maker = Maker(SMALL, seed)
            sentences = tuple(maker.sentence(3) for _ in range(2))
            store = maker.store(2)
            try:
                books = book_of(SMALL, sentences, (), ())
            except TooMany:
                continue
            kept = 0
            for book in books:
                added = tuple(form for form in book[1] if form[0] == "some")
                pairs = tuple(item for form in added for item in (None, form))
                full = with_new_atoms(store, book[0], pairs, len(SMALL[1]))
                kept += keeps_book(book, full, ())
            told = all(slow_holds(store, sentence, ()) for sentence in sentences)
            self.assertEqual(kept, int(told))
            seen[told] += 1
        self.assertGreater(min(seen), 20)


if __name__ == "__main__":
    unittest.main()
