"""[26] to [28]: questions, answers, and stores against questions."""

import itertools
import random
import unittest

from bagkinds.books import check_book, keeps_book
from bagkinds.deciding import check_decision, decide, has_store
from bagkinds.errors import TooMany
from bagkinds.finite import finite_store
from bagkinds.formulas import check_formula, free_terms
from bagkinds.questions import against, answers, check_follows, deny, follows, with_names
from bagkinds.stores import check_store, holds
from bagkinds.turning import to_forms
from tests.helpers import (
    ARROWS, FALSE, JUNK, MIXED, TRUE, Maker, atom, bend, both, broad, deep, either, is_plain_value, item_at, neg, places_in,
    replaced, slow_holds, sort, without,
)
from tests.slow import SMALL, TWO, all_stores, made_book, slow_keeps
from tests.test_roots import book_of_97
from tests.test_tables import ELEVEN, WIDE, wide_forms
from tests.test_turning import with_new_atoms

NEXT = ("some", atom(1, 0), TRUE, atom(0, 0, 1), atom(1, 1))
NO_BACK = ("all", atom(0, 0, 1), neg(atom(0, 1, 0)))
BOOK = (ARROWS, (NEXT, NO_BACK), (0, 0), (atom(1, 0),))


def some(number):
    """A switch about things with p."""
    return ("some", (number,), atom(1, number), TRUE)


def next_of(term, fresh):
    """A part with one free term."""
    return ("some", (fresh,), atom(0, term, fresh), TRUE)


class DenyTest(unittest.TestCase):
    def test_without_quantifiers(self):
        question = either(atom(0, 0, 1), neg(("equal", 0, 1)))
        told = (ARROWS, BOOK[1], (0, 0), (atom(1, 0), neg(question)))
        self.assertEqual(deny(BOOK, question), (told,))
        self.assertEqual(deny(book=BOOK, question=question), (told,))
        self.assertEqual(deny((ARROWS, (), (), ()), TRUE), ((ARROWS, (), (), (neg(TRUE),)),))

    def test_switches(self):
        question = either(some(5), neg(some(6)), atom(1, 1))
        books = deny(BOOK, question)
        self.assertEqual(len(books), 4)
        forms = [("all", atom(1, 5), neg(TRUE)), ("once", atom(1, 5), TRUE), ("all", atom(1, 6), neg(TRUE)), ("once", atom(1, 6), TRUE)]
        for number, (first, second) in enumerate(itertools.product((0, 1), repeat=2)):
            fact = neg(either((FALSE, TRUE)[first], neg((FALSE, TRUE)[second]), atom(1, 1)))
            self.assertEqual(books[number], (ARROWS, BOOK[1] + (forms[first], forms[2 + second]), (0, 0), (atom(1, 0), fact)))

    def test_parts_with_free_names(self):
        # some 7: r(1, 7) and p(7) with the name 1
        question = ("some", (7,), atom(0, 1, 7), atom(1, 7))
        language = (1, ARROWS[1] + (("newa", (0,)),))
        added = (("all", atom(0, 1, 7), either(neg(atom(1, 7)), atom(2, 1))), ("some", atom(2, 1), TRUE, atom(0, 1, 7), atom(1, 7)))
        self.assertEqual(deny(BOOK, question), ((language, BOOK[1] + added, (0, 0), (atom(1, 0), neg(atom(2, 1)))),))

    def test_all_is_the_denial_of_some(self):
        question = ("all", (7,), atom(0, 0, 7), atom(1, 7))
        language, forms, _, facts = deny(BOOK, question)[0]
        self.assertEqual(forms[2], ("all", atom(0, 0, 7), either(neg(neg(atom(1, 7))), atom(2, 0))))
        self.assertEqual(facts[1], neg(neg(atom(2, 0))))

    def test_bound_terms_with_the_numbers_of_names(self):
        # 0 is a name of the book, but bound here
        question = both(("some", (0,), sort(0, 0), atom(1, 0)), atom(1, 1))
        books = deny(BOOK, question)
        self.assertEqual(len(books), 2)
        self.assertEqual(books[0][1][2:], (("all", sort(0, 0), neg(atom(1, 0))),))
        self.assertEqual(books[1][1][2:], (("once", sort(0, 0), atom(1, 0)),))
        self.assertEqual([book[3][1] for book in books], [neg(both(FALSE, atom(1, 1))), neg(both(TRUE, atom(1, 1)))])
        # names of another sort than the bound term with their number
        book = (TWO, (), (1, 0), ())
        told = deny(book, ("some", (0,), atom(0, 0, 1), atom(0, 0, 0)))
        self.assertEqual(told[0][0][1][-1], ("newa", (0,)))
        self.assertEqual(told[0][3], (neg(atom(3, 1)),))

    def test_switches_within_parts_with_names(self):
        question = ("some", (7,), atom(0, 0, 7), some(8))
        books = deny(BOOK, question)
        self.assertEqual(len(books), 2)
        for book, told in zip(books, (FALSE, TRUE)):
            self.assertEqual(book[1][2], ("all", atom(0, 0, 7), either(neg(told), atom(2, 0))))
            self.assertEqual(book[3], (atom(1, 0), neg(atom(2, 0))))
        self.assertEqual([book[1][-1] for book in books], [("all", atom(1, 8), neg(TRUE)), ("once", atom(1, 8), TRUE)])

    def test_same_as_to_forms(self):
        for seed in range(200):
            sentence = Maker(SMALL, seed).sentence(3)
            book = (SMALL, (NEXT,), (0,), (atom(1, 0),))
            try:
                language, cases = to_forms(SMALL, neg(sentence))
            except TooMany:
                with self.assertRaises(TooMany):
                    deny(book, sentence)
                continue
            books = deny(book, sentence)
            self.assertTrue(is_plain_value(books))
            for bits, forms in cases:
                number = int("0" + "".join(map(str, bits)), 2)
                self.assertEqual(books[number][0], language)
                self.assertEqual(books[number][1], (NEXT,) + forms)
            self.assertEqual([len(told[3]) for told in books], [2] * len(books))

    def test_made(self):
        """A store and places keep just one book of deny if they keep the book without the question, otherwise none."""
        seen = [0, 0]
        for seed in range(400):
            chance = random.Random(seed)
            book = made_book((SMALL, TWO)[seed % 2], seed, 1, 2, 1)
            question = made_question(book, seed, 3)
            try:
                books = deny(book, question)
            except TooMany:
                continue
            for denied in books:
                self.assertIsNone(check_book(denied))
            stores = list(itertools.islice(all_stores(SMALL, 2), 40)) if book[0] == SMALL else [
                Maker(TWO, 50 * seed + number).store(2) for number in range(30)]
            for store in chance.sample(stores, 8):
                sorts = [number for number, count in enumerate(store[0]) for _ in range(count)]
                for places in itertools.permutations(range(len(sorts)), len(book[2])):
                    if tuple(sorts[place] for place in places) != book[2]:
                        continue
                    told = slow_keeps(book, store, places) and not slow_holds(store, question, tuple(enumerate(places)))
                    kept = 0
                    for denied in books:
                        added = denied[1][len(book[1]):]
                        full = with_new_atoms(store, denied[0], added, len(book[0][1]))
                        kept += keeps_book(denied, full, places)
                    self.assertEqual(kept, int(told))
                    seen[told] += 1
        self.assertGreater(min(seen), 300)


def made_question(book, seed, depth):
    """A right question for a book: its free terms are names, and bound terms begin at another number each time."""
    maker = Maker(book[0], seed)
    scope = dict(enumerate(book[2]))
    maker.next_term = len(scope)
    return maker.formula(scope, depth)


class TooManyTest(unittest.TestCase):
    calls = (
        deny, follows, lambda book, question: check_follows(book, question, None), against,
    )

    def too_many(self, book, question):
        for call in self.calls:
            with self.assertRaises(TooMany):
                call(book, question)

    def test_switches(self):
        book = (ARROWS, (), (), ())
        six = both(*[some(number) for number in range(6)])
        self.assertEqual(len(deny(book, six)), 64)
        self.too_many(book, both(*[some(number) for number in range(7)]))

    def test_new_relations(self):
        book = (ARROWS, (), (0,), ())
        self.assertEqual(len(deny(book, both(*[next_of(0, 20 + number) for number in range(8)]))[0][0][1]), 10)
        self.too_many(book, both(*[next_of(0, 20 + number) for number in range(9)]))
        language = (1, ARROWS[1] + tuple(("q" + letter, (0,)) for letter in "abcdefghijklm"))
        small = tuple(("all", sort(0, 0), neg(atom(number, 0))) for number in range(2, 15))
        self.assertEqual(len(deny((language, small, (0,), ()), next_of(0, 20))[0][0][1]), 16)
        with self.assertRaises(TooMany):
            deny((language, small, (0,), ()), both(next_of(0, 20), next_of(0, 21)))

    def test_80_and_81_forms(self):
        forms = (NO_BACK,) * 77
        # one part with a free name adds two forms, each switch one
        told = deny((ARROWS, forms, (0,), ()), both(next_of(0, 20), some(21)))
        self.assertEqual([len(book[1]) for book in told], [80, 80])
        self.too_many((ARROWS, forms, (0,), ()), both(next_of(0, 20), some(21), some(22)))
        self.too_many((ARROWS, forms + forms[:3], (0,), ()), some(21))
        self.assertEqual(len(deny((ARROWS, forms + forms[:3], (0,), ()), atom(1, 0))), 1)

    def test_80_and_81_facts(self):
        self.assertEqual(len(deny((ARROWS, (), (0,), (atom(1, 0),) * 79), FALSE)[0][3]), 80)
        self.too_many((ARROWS, (), (0,), (atom(1, 0),) * 80), FALSE)

    def test_own_forms_first(self):
        for language, forms in ((ELEVEN, ()), (WIDE, wide_forms(475))):
            book = (language, forms, (0,), (FALSE,))
            for question in (TRUE, None, "x"):
                for call in (follows, lambda book, question: check_follows(book, question, ()), against):
                    with self.assertRaises(TooMany):
                        call(book, question)
            with self.assertRaises(TooMany):
                answers(book, None, None)
            # deny alone asks for no bound of sizes
            self.assertEqual(len(deny(book, TRUE)), 1)

    def test_books_when_they_are_come_to(self):
        # The row (0, 1) has 9 atoms of one thing, and r; the new relation makes 11.
        language = (2, tuple(("n" + letter, (0,)) for letter in "abcdefghi") + (("r", (0, 1)),))
        book = (language, (), (0,), ())
        question = ("some", (5,), atom(9, 0, 5), TRUE)
        self.assertEqual(follows(book, atom(0, 0))[0], False)
        self.assertEqual(len(deny(book, question)), 1)
        for call in (follows, against):
            with self.assertRaises(TooMany):
                call(book, question)
        for value in (None, (True, ()), (True, (("store",),)), (False, ("none",)), (True, (("none",), ("none",)))):
            self.assertIs(check_follows(book, question, value), False)
        for value in ((True, (("none",),)), (False, ("store",))):
            with self.assertRaises(TooMany):
                check_follows(book, question, value)
        with self.assertRaises(TooMany):
            answers(book, ("some", (5,), atom(9, 20, 5), atom(0, 20)), (20,))

    def test_a_book_that_is_not_come_to(self):
        """The first of two books has a store, and the second one is too large."""
        language = (4, tuple(("n" + letter, (0,)) for letter in "abcdefgh") + (("x", (0, 1)), ("y", (0, 2)), ("z", (0, 3))))
        parts = [("some", (20 + name,), atom(8 + name, 20 + name, name), both(atom(0, 20 + name), atom(1, 20 + name)))
                 for name in range(3)]
        question = either(("some", (30,), sort(0, 30), TRUE), *parts)
        book = (language, (), (1, 2, 3), ())
        one, other = deny(book, question)
        self.assertIs(has_store(one), True)
        with self.assertRaises(TooMany):
            has_store(other)
        told = follows(book, question)
        self.assertEqual(told, (False, decide(one)))
        self.assertIs(check_follows(book, question, told), True)
        self.assertEqual(against(book, question), (((0, 1, 1, 1), ()), (0, 1, 2)))
        # What does not fit the first book comes to the second.
        with self.assertRaises(TooMany):
            check_follows(book, question, (False, ("store",)))
        papers = (("none", (), ("root", ("fact", 0))),) * 2
        self.assertIs(check_follows(book, question, (True, papers)), False)
        more = (language, (("once", sort(0, 0), TRUE),), (1, 2, 3), ())
        papers = (("none", (), ("once", 0)),) + papers[:1]
        for call in (follows, against, lambda book, question: check_follows(book, question, (True, papers))):
            with self.assertRaises(TooMany):
                call(more, question)
        # The first words are looked at before the books.
        self.assertIs(check_follows(more, question, (True, papers[:1] + (("store",),))), False)
        self.assertIs(check_follows(more, question, (True, papers[:1] + ((),))), False)
        self.assertIs(check_follows(more, question, (True, papers[:1])), False)

    def test_97_atoms(self):
        book = book_of_97()
        for call in (follows, against):
            with self.assertRaises(TooMany):
                call(book, TRUE)
        self.assertIs(check_follows(book, TRUE, (True, (("none", (), ("root", ("fact", 0))),))), True)


class FollowsTest(unittest.TestCase):
    def test_true(self):
        question = ("some", (5,), atom(0, 0, 5), both(atom(1, 5), neg(atom(0, 5, 0))))
        told = follows(BOOK, question)
        self.assertIs(told[0], True)
        self.assertEqual(told[1], tuple(decide(book) for book in deny(BOOK, question)))
        self.assertEqual(follows(book=BOOK, question=question), told)
        self.assertTrue(is_plain_value(told))

    def test_false(self):
        question = atom(0, 0, 1)
        self.assertEqual(follows(BOOK, question), (False, decide(deny(BOOK, question)[0])))
        # the first book that has a store comes second here
        once = (ARROWS, (("once", atom(1, 0), TRUE),), (0,), ())
        question = both(some(5), atom(1, 0))
        self.assertEqual([has_store(book) for book in deny(once, question)], [False, True])
        self.assertEqual(follows(once, question), (False, decide(deny(once, question)[1])))

    def test_books_without_a_store(self):
        book = (ARROWS, (), (0,), (FALSE,))
        self.assertIs(follows(book, FALSE)[0], True)
        self.assertIs(follows(book, some(4))[0], True)
        self.assertEqual(len(follows(book, some(4))[1]), 2)

    def test_large_questions(self):
        # nine levels, and 150 parts
        self.assertIs(follows(BOOK, bend(9, atom(1, 0)))[0], True)
        self.assertIs(follows(BOOK, broad(150, atom(1, 0)))[0], True)
        self.assertIs(follows(BOOK, broad(150, atom(1, 1)))[0], False)
        inner = ("all", (5,), atom(0, 0, 5), bend(7, atom(1, 5)))
        self.assertIsNone(check_formula(ARROWS, inner, ((0, 0),)))
        self.assertIs(follows(BOOK, inner)[0], False)

    def test_made(self):
        """What follows is true in all small stores that keep the book; what does not is false in the one of against."""
        seen = [0, 0]
        for seed in range(260):
            book = made_book(SMALL, seed, 2, 2, 2)
            question = made_question(book, seed + 7, 3)
            try:
                told, papers = follows(book, question)
            except TooMany:
                continue
            self.assertIs(check_follows(book, question, (told, papers)), True)
            self.assertIs(check_follows(book, question, (not told, papers)), False)
            if told and has_store(book):
                for store in itertools.islice(all_stores(SMALL, 2), 60):
                    for places in itertools.permutations(range(store[0][0]), len(book[2])):
                        if slow_keeps(book, store, places):
                            self.assertTrue(slow_holds(store, question, tuple(enumerate(places))))
            elif not told:
                self.assertEqual(papers[0], "store")
            seen[told] += 1
        self.assertGreater(min(seen), 60)


class CheckFollowsTest(unittest.TestCase):
    yes = ("some", (5,), atom(0, 0, 5), atom(1, 5))
    two = either(yes, some(6))
    no = atom(0, 0, 1)

    def test_right_values(self):
        for question in (self.yes, self.two, self.no, TRUE, FALSE, some(3)):
            self.assertIs(check_follows(BOOK, question, follows(BOOK, question)), True)
            self.assertIs(check_follows(book=BOOK, question=question, value=follows(BOOK, question)), True)
        told = follows(BOOK, self.two)
        self.assertEqual(len(told[1]), 2)
        self.assertIs(check_follows(BOOK, self.yes, told), False)

    def test_numbers_of_decisions(self):
        told, papers = follows(BOOK, self.two)
        for value in ((), papers[:1], papers[1:], papers + papers[:1], papers[::-1]):
            right = value == papers[::-1] and all(check_decision(book, paper) for book, paper in zip(deny(BOOK, self.two), value))
            self.assertIs(check_follows(BOOK, self.two, (True, value)), right)

    def test_first_words(self):
        told, papers = follows(BOOK, self.two)
        store = decide(BOOK)
        self.assertEqual(store[0], "store")
        self.assertIs(check_follows(BOOK, self.two, (True, (store,) + papers[1:])), False)
        self.assertIs(check_follows(BOOK, self.two, (True, papers[:1] + (store,))), False)
        self.assertIs(check_follows(BOOK, self.two, (False, papers[0])), False)
        self.assertIs(check_follows(BOOK, self.no, (False, ("none",) + follows(BOOK, self.no)[1][1:])), False)
        self.assertIs(check_follows(BOOK, self.no, (True, (follows(BOOK, self.no)[1],))), False)

    def test_a_store_for_any_book(self):
        # A store for the second book is right, too, though follows tells of the first.
        question = both(some(5), atom(1, 1))
        books = deny(BOOK, question)
        right = [decide(book) for book in books]
        self.assertEqual([paper[0] for paper in right], ["none", "store"])
        self.assertIs(check_follows(BOOK, question, (False, right[1])), True)
        free = (ARROWS, (), (0,), ())
        books = deny(free, both(some(5), atom(1, 0)))
        self.assertEqual([decide(book)[0] for book in books], ["store", "store"])
        once = ("once", atom(1, 5), TRUE)
        self.assertIn(once, books[1][1])
        for paper in [decide(book) for book in books]:
            self.assertIs(check_follows(free, both(some(5), atom(1, 0)), (False, paper)), True)

    def test_truth_and_numbers(self):
        for question in (self.yes, self.no):
            told, papers = follows(BOOK, question)
            for first in (1, 0, None, "True", (), (True,), not told):
                self.assertIs(check_follows(BOOK, question, (first, papers)), False)
            for value in ((told,), (told, papers, ()), (papers, told), papers, [told, papers], told, (False, ()), (True, ((),))):
                self.assertIs(check_follows(BOOK, question, value), False)

    def test_spoilt(self):
        for question in (self.two, self.no):
            value = follows(BOOK, question)
            for path in places_in(value):
                for junk in JUNK:
                    if item_at(value, path) is not junk:
                        self.assertIs(check_follows(BOOK, question, replaced(value, path, junk)), False, (path, junk))
                if len(path) in (1, 2):
                    self.assertIs(check_follows(BOOK, question, without(value, path)), False, path)
            for junk in JUNK + (deep(30), (True, (True,)), (True, True), (False, False), (True, ("none",)), (False, ("store",))):
                self.assertIs(check_follows(BOOK, question, junk), False)

    def test_too_many_of_deny_comes_first(self):
        question = both(*[some(number) for number in range(7)])
        for value in (None, (True, ()), (False, ("store",)), deep(30)):
            with self.assertRaises(TooMany):
                check_follows(BOOK, question, value)


class AnswersTest(unittest.TestCase):
    def test_one_variable(self):
        book = (ARROWS, (NEXT, NO_BACK), (0, 0, 0), (atom(1, 0), neg(atom(1, 1))))
        self.assertEqual(answers(book, atom(1, 7), (7,)), (((0,),), ((0,), (2,))))
        self.assertEqual(answers(book=book, formula=atom(1, 0), variables=(0,)), (((0,),), ((0,), (2,))))
        # each thing with p has a next
        self.assertEqual(answers(book, ("some", (9,), atom(0, 7, 9), TRUE), (7,)), (((0,),), ((0,), (1,), (2,))))

    def test_two_variables(self):
        book = (ARROWS, (NO_BACK,), (0, 0), (atom(0, 0, 1),))
        self.assertEqual(answers(book, atom(0, 4, 2), (2, 4)), (((1, 0),), ((1, 0),)))
        self.assertEqual(answers(book, atom(0, 4, 2), (4, 2)), (((0, 1),), ((0, 1),)))
        # names come again
        told = answers(book, neg(atom(0, 4, 2)), (4, 2))
        self.assertEqual(told, (((0, 0), (1, 0), (1, 1)), ((0, 0), (1, 0), (1, 1))))
        book = (ARROWS, (), (0, 0), (atom(0, 0, 1),))
        told = answers(book, either(atom(0, 4, 2), neg(atom(0, 4, 2))), (4, 2))
        self.assertEqual(told[0], tuple(itertools.product((0, 1), repeat=2)))
        told = answers(book, both(atom(0, 4, 2), ("equal", 4, 2)), (4, 2))
        self.assertEqual(told, ((), ((0, 0), (1, 1))))

    def test_sorts(self):
        book = (TWO, (), (1, 0, 1, 0), (atom(1, 0, 3), atom(2, 2)))
        self.assertEqual(answers(book, atom(1, 8, 9), (9, 8)), (((3, 0),), ((1, 0), (1, 2), (3, 0), (3, 2))))
        self.assertEqual(answers(book, atom(2, 8), (8,)), (((2,),), ((0,), (2,))))

    def test_three_and_four_variables(self):
        language = (4, (("d", (3, 2, 1, 0)), ("t", (0, 1, 2))))
        book = (language, (("all", atom(0, 0, 1, 2, 3), atom(1, 3, 2, 1)),), (0, 1, 2, 3, 3), (atom(0, 3, 2, 1, 0),))
        told = answers(book, atom(0, 9, 8, 7, 6), (6, 7, 8, 9))
        self.assertEqual(told, (((0, 1, 2, 3),), ((0, 1, 2, 3), (0, 1, 2, 4))))
        self.assertEqual(answers(book, atom(1, 0, 1, 2), (2, 1, 0)), (((2, 1, 0),), ((2, 1, 0),)))

    def test_no_tuple_and_no_store(self):
        self.assertEqual(answers((TWO, (), (0,), (FALSE,)), atom(2, 8), (8,)), ((), ()))
        self.assertEqual(answers((ARROWS, (), (), ()), both(*[atom(1, 8)] + [some(number) for number in range(7)]), (8,)), ((), ()))
        book = (ARROWS, (), (0, 0), (FALSE,))
        self.assertEqual(answers(book, atom(0, 8, 9), (8, 9)), (tuple(itertools.product((0, 1), repeat=2)), ()))

    def test_200_tuples_and_more(self):
        language = (2, (("a", (0,)), ("b", (1,))))
        formula = both(atom(0, 20), atom(0, 21), atom(1, 22))
        for many, other in ((10, 2), (7, 4), (6, 5)):
            book = (language, (), (0,) * many + (1,) * other, (FALSE,))
            self.assertEqual([len(part) for part in answers(book, formula, (20, 21, 22))], [many ** 2 * other, 0])
        # the least number above 200 that twelve names can give is 216
        for many, other in ((6, 6), (9, 3), (8, 4), (7, 5), (11, 2)):
            book = (language, (), (0,) * many + (1,) * other, (FALSE,))
            with self.assertRaises(TooMany):
                answers(book, formula, (20, 21, 22))

    def test_too_many_of_a_tuple(self):
        six = both(atom(1, 30), *[some(number) for number in range(6)])
        seven = both(six, some(6))
        book = (ARROWS, (), (0,), (FALSE,))
        self.assertEqual(answers(book, six, (30,)), (((0,),), ()))
        with self.assertRaises(TooMany):
            answers(book, seven, (30,))
        with self.assertRaises(TooMany):
            answers((ARROWS, (), (0,), (FALSE,) * 80), atom(1, 30), (30,))

    def test_made(self):
        seen = [0, 0, 0, 0]
        for seed in range(150):
            book = made_book(SMALL, seed, 2, 3, 2)
            formula = both(atom(0, 20, 21), made_part(seed)) if seed % 2 else both(atom(1, 20), made_part(seed, (20,)))
            variables = free_terms(formula)
            try:
                sure, possible = answers(book, formula, variables)
            except TooMany:
                continue
            self.assertTrue(is_plain_value((sure, possible)))
            for names in itertools.product(range(len(book[2])), repeat=len(variables)):
                question = with_names(formula, variables, names)
                self.assertIs(names in sure, follows(book, question)[0])
                self.assertIs(names in possible, not follows(book, neg(question))[0])
                seen[2 * (names in sure) + (names in possible)] += 1
            self.assertEqual((sure, possible), (tuple(sorted(sure)), tuple(sorted(possible))))
            if has_store(book):
                self.assertTrue(set(sure) <= set(possible))
        self.assertGreater(min(seen[:3]), 10)
        self.assertGreater(seen[3], 0)


def made_part(seed, terms=(20, 21)):
    maker = Maker(SMALL, seed)
    return maker.formula({term: 0 for term in terms}, 2)


class WithNamesTest(unittest.TestCase):
    def test_free_terms(self):
        self.assertEqual(with_names(atom(0, 7, 9), (7, 9), (1, 0)), atom(0, 1, 0))
        self.assertEqual(with_names(formula=atom(0, 7, 9), variables=(9, 7), names=(1, 0)), atom(0, 0, 1))
        self.assertEqual(with_names(both(atom(1, 7), ("equal", 7, 9)), (7, 9), (11, 11)), both(atom(1, 11), ("equal", 11, 11)))
        self.assertEqual(with_names(atom(0, 0, 1), (0, 1), (1, 0)), atom(0, 1, 0))

    def test_bound_terms(self):
        # 0 and 1 are bound, and names are put in for 2
        formula = ("some", (0, 1), atom(4, 0, 1, 2), atom(0, 0, 1))
        self.assertEqual(with_names(formula, (2,), (0,)), ("some", (12, 13), atom(4, 12, 13, 0), atom(0, 12, 13)))
        self.assertEqual(with_names(formula, (2,), (5,)), ("some", (12, 13), atom(4, 12, 13, 5), atom(0, 12, 13)))

    def test_part_by_part(self):
        left = ("some", (30,), atom(0, 1, 30), ("some", (8,), atom(0, 30, 8), TRUE))
        right = ("all", (3, 9), atom(4, 3, 9, 1), ("some", (2,), atom(0, 2, 3), atom(1, 2)))
        told = with_names(both(atom(1, 1), left, right), (1,), (4,))
        self.assertEqual(told, both(
            atom(1, 4),
            ("some", (12,), atom(0, 4, 12), ("some", (13,), atom(0, 12, 13), TRUE)),
            ("all", (14, 15), atom(4, 14, 15, 4), ("some", (16,), atom(0, 16, 14), atom(1, 16))),
        ))

    def test_numbers_that_occur(self):
        # 12 is free, 14 bound, so the bound ones get 13 and 15
        formula = both(atom(1, 12), ("some", (14,), atom(0, 12, 14), ("some", (2,), atom(0, 14, 2), TRUE)))
        self.assertEqual(with_names(formula, (12,), (0,)), both(
            atom(1, 0), ("some", (13,), atom(0, 0, 13), ("some", (15,), atom(0, 13, 15), TRUE))))
        formula = ("some", (12,), atom(0, 0, 12), TRUE)
        self.assertEqual(with_names(formula, (0,), (3,)), ("some", (13,), atom(0, 3, 13), TRUE))

    def test_whatever_sorts(self):
        formula = ("all", (5,), atom(1, 7, 5), atom(2, 5))
        self.assertEqual(with_names(formula, (7,), (11,)), ("all", (12,), atom(1, 11, 12), atom(2, 12)))

    def test_made(self):
        for seed in range(300):
            maker = Maker(MIXED, seed)
            scope = {90: 0, 91: 1, 92: 0}
            formula = both(maker.formula(scope, 4), atom(1, 90))
            variables = free_terms(formula)
            chance = random.Random(seed)
            names = tuple(chance.randrange(12) for _ in variables)
            told = with_names(formula, variables, names)
            self.assertEqual(set(free_terms(told)), set(names))
            store = maker.store(2)
            things = {90: 0, 91: sum(store[0][:1]), 92: 0}
            if store[0][0] and store[0][1] and len({variables[names.index(name)] for name in names}) == len(variables):
                values = tuple(sorted((term, things[term]) for term in variables))
                moved = tuple(sorted((name, things[term]) for term, name in zip(variables, names)))
                self.assertIs(holds(store, formula, values), slow_holds(store, told, moved))


class AgainstTest(unittest.TestCase):
    def check(self, book, question):
        told = against(book, question)
        if told is not None:
            store, places = told
            self.assertIsNone(check_store(book[0], store))
            self.assertIs(keeps_book(book, store, places), True)
            self.assertIs(holds(store, question, tuple(enumerate(places))), False)
            self.assertTrue(is_plain_value(told))
        return told

    def test_questions_that_follow(self):
        self.assertIsNone(against(BOOK, ("some", (5,), atom(0, 0, 5), atom(1, 5))))
        self.assertIsNone(against(book=BOOK, question=TRUE))
        self.assertIsNone(against((ARROWS, (), (), (FALSE,)), FALSE))

    def test_questions_that_do_not(self):
        for question in (FALSE, atom(0, 0, 1), atom(1, 1), ("some", (5,), atom(0, 1, 5), TRUE), neg(some(6)),
                         ("all", (5,), atom(0, 0, 5), atom(1, 5)), both(some(7), atom(0, 1, 0)),
                         ("all", (8,), sort(0, 8), ("some", (9,), atom(0, 8, 9), TRUE))):
            self.assertIsNotNone(self.check(BOOK, question))
        self.assertEqual(against((ARROWS, (), (0,), ()), atom(1, 0)), (((1,), ()), (0,)))

    def test_first_book_with_a_store(self):
        book = (ARROWS, (), (0,), ())
        question = both(some(5), atom(1, 0))
        told = against(book, question)
        self.assertEqual(told, finite_store(deny(book, question)[0]))
        # The first book has no store here, the second one has.
        book = (ARROWS, (("once", atom(1, 0), TRUE),), (0,), ())
        self.assertIsNone(finite_store(deny(book, question)[0]))
        self.assertEqual(self.check(book, question), finite_store(deny(book, question)[1]))

    def test_new_relations_are_left_out(self):
        question = ("all", (5,), atom(0, 0, 5), FALSE)
        store, places = self.check((ARROWS, (), (0,), ()), question)
        self.assertTrue(any(number == 0 for number, _ in store[1]))
        self.assertTrue(all(number < 2 for number, _ in store[1]))

    def test_made(self):
        seen = [0, 0]
        for seed in range(250):
            book = made_book((SMALL, TWO)[seed % 2], seed, 2, 2, 2)
            question = made_question(book, seed + 3, 3)
            try:
                told = self.check(book, question)
                right = follows(book, question)[0]
            except TooMany:
                continue
            if right:
                self.assertIsNone(told)
            seen[told is not None] += 1
        self.assertGreater(min(seen), 60)


if __name__ == "__main__":
    unittest.main()
