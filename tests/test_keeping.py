"""[42]: a keeper of books."""

import random
import unittest

from bagkinds.books import check_book
from bagkinds.deciding import has_store
from bagkinds.errors import BadBook, BadForm, TooMany, UnknownNumber
from bagkinds.keeping import Keeper
from bagkinds.questions import follows
from bagkinds.tables import greatest_table
from tests.helpers import ARROWS, FALSE, JUNK, TRUE, atom, bend, broad, deep, item_at, neg, places_in, replaced, sort
from tests.slow import SMALL, TWO, made_book
from tests.test_tables import ELEVEN, WIDE, wide_forms

R, P = 0, 1
NEXT = ("some", atom(P, 0), TRUE, atom(R, 0, 1), atom(P, 1))
NO_TURN = ("all", atom(R, 0, 1), neg(atom(R, 1, 0)))
NO_P = ("all", sort(0, 0), neg(atom(P, 0)))
ONCE = ("once", atom(P, 0), TRUE)
BOOK = (ARROWS, (NEXT, NO_TURN), (0, 0), (atom(P, 0), atom(R, 0, 1)))


class KeeperCase(unittest.TestCase):
    def refused(self, keeper, error, call, *args, part=None):
        """A change that raises an error leaves all as it was."""
        before = (keeper.book, len(keeper))
        with self.assertRaises(error) as caught:
            call(*args)
        self.assertIs(type(caught.exception), error)
        if part is not None:
            self.assertEqual(caught.exception.part, part)
        self.assertEqual((keeper.book, len(keeper)), before)


class MadeTest(KeeperCase):
    def test_constructor(self):
        keeper = Keeper(BOOK)
        self.assertEqual((keeper.book, len(keeper), keeper.has_store, keeper.kept), (BOOK, 0, True, 0))
        self.assertEqual(keeper.table, greatest_table(*BOOK[:2]))
        self.assertEqual(Keeper(book=BOOK).book, BOOK)

    def test_wrong_books(self):
        for value, part in ((None, "book"), ((), "book"), (BOOK + ((),), "book"), (((0, ()),) + BOOK[1:], "language"),
                            (BOOK[:1] + ((NEXT, 3),) + BOOK[2:], "forms"), (BOOK[:2] + ((True, 0), ()), "names"),
                            (BOOK[:3] + ((atom(P, 2),),), "facts"), (deep(30), "book"), (list(BOOK), "book")):
            with self.assertRaises(BadBook) as caught:
                Keeper(value)
            self.assertEqual(caught.exception.part, part)
        for value in JUNK:
            with self.assertRaises(BadBook):
                Keeper(value)
        for path in places_in(BOOK):
            if type(item_at(BOOK, path)) is int:
                for fresh in (True, False, None, (item_at(BOOK, path),)):
                    with self.assertRaises(BadBook):
                        Keeper(replaced(BOOK, path, fresh))


class ChangesTest(KeeperCase):
    def test_forms(self):
        keeper = Keeper(BOOK)
        self.assertIsNone(keeper.add_form(ONCE))
        self.assertEqual((keeper.book[1], len(keeper)), ((NEXT, NO_TURN, ONCE), 1))
        self.assertIsNone(keeper.drop_form(0))
        self.assertEqual((keeper.book[1], len(keeper)), ((NO_TURN, ONCE), 2))
        self.assertIsNone(keeper.add_form(form=NEXT))
        self.assertIsNone(keeper.drop_form(number=1))
        self.assertEqual(keeper.book, (ARROWS, (NO_TURN, NEXT)) + BOOK[2:])

    def test_facts(self):
        keeper = Keeper(BOOK)
        self.assertIsNone(keeper.add_fact(FALSE))
        self.assertIs(keeper.has_store, False)
        self.assertIsNone(keeper.drop_fact(1))
        self.assertIsNone(keeper.add_fact(fact=atom(P, 1)))
        self.assertIsNone(keeper.drop_fact(number=0))
        self.assertEqual((keeper.book[3], len(keeper)), ((FALSE, atom(P, 1)), 4))

    def test_names(self):
        keeper = Keeper((TWO, (), (1,), (atom(2, 0),)))
        self.assertIsNone(keeper.add_name(0))
        self.assertIsNone(keeper.add_name(sort=1))
        self.assertEqual(keeper.book[2], (1, 0, 1))
        keeper.add_fact(neg(atom(1, 0, 1)))
        self.assertIsNone(keeper.drop_name())
        self.refused(keeper, BadBook, keeper.drop_name, part="facts")
        keeper.drop_fact(1)
        keeper.drop_name()
        self.assertEqual(keeper.book[2], (1,))
        self.refused(keeper, BadBook, keeper.drop_name, part="facts")
        keeper.drop_fact(0)
        keeper.drop_name()
        self.assertEqual(keeper.book, (TWO, (), (), ()))
        self.refused(keeper, UnknownNumber, keeper.drop_name)
        self.assertEqual(len(keeper), 8)

    def test_names_in_equalities(self):
        keeper = Keeper((ARROWS, (), (0, 0), (("equal", 0, 1),)))
        self.refused(keeper, BadBook, keeper.drop_name, part="facts")
        keeper = Keeper((ARROWS, (), (0, 0), (("equal", 0, 0), TRUE)))
        self.assertIsNone(keeper.drop_name())

    def test_unknown_numbers(self):
        keeper = Keeper(BOOK)
        for number in (2, -1, 10 ** 59, True, False, None, "0", (0,), (), deep(30), (0,) * 19000):
            self.refused(keeper, UnknownNumber, keeper.drop_form, number)
            self.refused(keeper, UnknownNumber, keeper.drop_fact, number)
        empty = Keeper((ARROWS, (), (), ()))
        for call in (empty.drop_form, empty.drop_fact):
            self.refused(empty, UnknownNumber, call, 0)

    def test_wrong_forms(self):
        keeper = Keeper(BOOK)
        for value in JUNK + (("once", atom(2, 0), TRUE), ("all", sort(1, 0), TRUE), ("all", sort(0, 0), bend(13, TRUE)),
                             ("once", sort(0, 0), broad(201, atom(P, 0))), NEXT + (TRUE,), ("once", sort(0, 0), atom(P, 1)),
                             ("all", sort(False, 0), TRUE), ("some", atom(P, 0), TRUE, atom(R, 0, 0), TRUE), deep(30)):
            self.refused(keeper, BadForm, keeper.add_form, value)

    def test_wrong_facts_and_names(self):
        keeper = Keeper(BOOK)
        for value in JUNK + (atom(P, 2), atom(P, True), ("some", (5,), sort(0, 5), TRUE), ("equal", 0, 2), bend(13, TRUE),
                             broad(201, TRUE), atom(R, 0), deep(30)):
            self.refused(keeper, BadBook, keeper.add_fact, value, part="facts")
        for value in JUNK + (1, -1, True, False, 10 ** 59, "0", (0,), deep(30), None):
            self.refused(keeper, BadBook, keeper.add_name, value, part="names")

    def test_bounds(self):
        keeper = Keeper((ARROWS, (NO_TURN,) * 79, (0,) * 11, (TRUE,) * 79))
        for call, value, part, wrong, error in ((keeper.add_form, NEXT, "forms", None, BadForm),
                                                (keeper.add_fact, TRUE, "facts", None, BadBook),
                                                (keeper.add_name, 0, "names", 5, BadBook)):
            self.assertIsNone(call(value))
            # A form that is not right is told ahead of a number that is too large.
            self.refused(keeper, error, call, wrong, part=None if error is BadForm else part)
            self.refused(keeper, BadBook, call, value, part=part)
        check_book(keeper.book)
        self.assertEqual((len(keeper.book[1]), len(keeper.book[2]), len(keeper.book[3])), (80, 12, 80))


class UndoTest(KeeperCase):
    def test_each_change(self):
        keeper = Keeper(BOOK)
        self.refused(keeper, UnknownNumber, keeper.undo)
        for change in (lambda: keeper.add_form(ONCE), lambda: keeper.drop_form(1), lambda: keeper.add_fact(TRUE),
                       lambda: keeper.drop_fact(0), lambda: keeper.add_name(0)):
            change()
            self.assertEqual(len(keeper), 1)
            self.assertNotEqual(keeper.book, BOOK)
            self.assertIsNone(keeper.undo())
            self.assertEqual((keeper.book, len(keeper)), (BOOK, 0))
        self.refused(keeper, UnknownNumber, keeper.undo)

    def test_all_changes(self):
        keeper, books = Keeper(BOOK), [BOOK]
        for change in (lambda: keeper.add_name(0), lambda: keeper.add_fact(atom(R, 2, 0)), lambda: keeper.drop_fact(2),
                       lambda: keeper.drop_name(), lambda: keeper.drop_form(0), lambda: keeper.add_form(NO_P)):
            change()
            books.append(keeper.book)
        while len(keeper):
            self.assertEqual(keeper.book, books.pop())
            keeper.undo()
        self.assertEqual(books, [BOOK])
        self.refused(keeper, UnknownNumber, keeper.undo)
        keeper.add_name(0)
        keeper.undo()
        self.assertEqual(keeper.book, BOOK)


class KeptTest(KeeperCase):
    def test_forms_and_other_things(self):
        keeper = Keeper((ARROWS, (NEXT,), (0,), ()))
        many = len(keeper.table)
        self.assertEqual(keeper.kept, 0)
        keeper.add_name(0)
        self.assertEqual(keeper.kept, many)
        keeper.add_form(NO_P)
        less = len(keeper.table)
        self.assertLess(less, many)
        self.assertEqual((keeper.kept, keeper.kept), (less, less))
        keeper.drop_form(0)
        self.assertEqual(keeper.kept, len(set(keeper.table) & set(greatest_table(ARROWS, (NEXT, NO_P)))))
        keeper.undo()
        self.assertEqual(keeper.kept, less)
        keeper.undo()
        self.assertEqual(keeper.kept, less)
        keeper.undo()
        self.assertEqual((keeper.kept, len(keeper)), (many, 0))

    def test_tables_that_have_little_in_common(self):
        has, lacks = ("all", sort(0, 0), atom(P, 0)), ("all", sort(0, 0), neg(atom(P, 0)))
        keeper = Keeper((ARROWS, (has,), (), ()))
        keeper.add_form(lacks)
        self.assertEqual((keeper.table, keeper.kept), ((), 0))
        keeper.drop_form(0)
        self.assertEqual(keeper.kept, 0)
        keeper.undo()
        self.assertEqual(keeper.kept, 0)
        keeper.undo()
        self.assertEqual((keeper.book[1], keeper.kept), ((has,), 0))

    def test_refused_changes(self):
        keeper = Keeper((ARROWS, (NEXT,), (), ()))
        with self.assertRaises(BadForm):
            keeper.add_form(None)
        with self.assertRaises(UnknownNumber):
            keeper.undo()
        self.assertEqual(keeper.kept, 0)
        keeper.add_form(NO_P)
        told = keeper.kept
        for call, args in ((keeper.add_form, (3,)), (keeper.drop_form, (9,)), (keeper.add_fact, (None,)),
                           (keeper.drop_fact, (0,)), (keeper.add_name, (7,)), (keeper.drop_name, ())):
            with self.assertRaises((BadForm, BadBook, UnknownNumber)):
                call(*args)
            self.assertEqual(keeper.kept, told)

    def test_made(self):
        """Whatever changes were made, all is as with a fresh keeper, and kept compares with the table before."""
        for seed in range(40):
            chance = random.Random(seed)
            first, other = made_book((SMALL, TWO)[seed % 2], seed, 3, 2, 2), made_book((SMALL, TWO)[seed % 2], seed + 500, 6, 2, 2)
            keeper, last = Keeper(first), None
            for _ in range(12):
                before = keeper.book
                calls = [lambda: keeper.add_form(chance.choice(other[1])), lambda: keeper.drop_form(chance.randrange(4)),
                         lambda: keeper.add_fact(chance.choice(first[3] or (TRUE,))), keeper.drop_name, keeper.undo, keeper.undo,
                         lambda: keeper.drop_fact(0), lambda: keeper.add_name(0)]
                try:
                    self.assertIsNone(chance.choice(calls)())
                    last = before
                except (UnknownNumber, BadBook):
                    self.assertEqual(keeper.book, before)
                if chance.random() < 0.5:
                    fresh = Keeper(keeper.book)
                    check_book(keeper.book)
                    self.assertEqual(keeper.table, fresh.table)
                    self.assertEqual(keeper.has_store, fresh.has_store)
                    self.assertEqual(keeper.has_store, has_store(keeper.book))
                    self.assertEqual(keeper.follows(TRUE), fresh.follows(TRUE))
                    old = () if last is None else greatest_table(*last[:2])
                    self.assertEqual(keeper.kept, len(set(keeper.table) & set(old)))


class AskedTest(KeeperCase):
    def test_follows(self):
        keeper = Keeper(BOOK)
        question = ("some", (5,), atom(R, 0, 5), atom(P, 5))
        self.assertEqual(keeper.follows(question), follows(BOOK, question))
        self.assertEqual(keeper.follows(question=neg(atom(R, 1, 0))), follows(BOOK, neg(atom(R, 1, 0))))
        keeper.drop_form(1)
        self.assertIs(keeper.follows(neg(atom(R, 1, 0)))[0], False)

    def test_too_many(self):
        """Changes, book and len go on where all that needs a table raises TooMany."""
        for language, forms in ((ELEVEN, (ONCE,)), (WIDE, wide_forms(475))):
            form = ("all", sort(0, 0), neg(atom(0, 0)))
            keeper = Keeper((language, forms, (0,), ()))
            for _ in range(2):
                self.too_many(keeper)
                keeper.add_fact(atom(0, 0))
                keeper.add_name(0)
                keeper.add_form(form)
                keeper.drop_form(0)
                keeper.drop_fact(0)
                keeper.drop_name()
                self.assertEqual(len(keeper), 6)
                self.assertEqual(keeper.book, (language, forms[1:] + (form,), (0,), ()))
                while len(keeper):
                    keeper.undo()
                with self.assertRaises(UnknownNumber):
                    keeper.undo()

    def too_many(self, keeper):
        for call in (lambda: keeper.table, lambda: keeper.has_store, lambda: keeper.kept, lambda: keeper.follows(TRUE),
                     lambda: keeper.follows(None)):
            with self.assertRaises(TooMany):
                call()

    def test_kept_by_a_table_before_that_is_too_large(self):
        keeper = Keeper((WIDE, wide_forms(475), (), ()))
        keeper.add_form(("all", sort(0, 0), atom(0, 0)))
        self.assertGreater(len(keeper.table), 0)
        with self.assertRaises(TooMany):
            keeper.kept
        keeper.add_fact(TRUE)
        self.assertEqual(keeper.kept, len(keeper.table))
        keeper.undo()
        self.assertEqual(keeper.kept, len(keeper.table))
        keeper.undo()
        with self.assertRaises(TooMany):
            keeper.kept


if __name__ == "__main__":
    unittest.main()
