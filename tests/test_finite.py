"""[24] and [25]: good roots and finite stores."""

import unittest

from bagkinds.books import keeps_book
from bagkinds.deciding import has_store
from bagkinds.errors import TooMany
from bagkinds.finite import finite_store, is_good
from bagkinds.ranks import starters
from bagkinds.stores import check_store
from bagkinds.tables import greatest_table
from tests.helpers import ARROWS, FALSE, TRUE, atom, both, is_plain_value, neg, sort
from tests.slow import SMALL, TWO, made_book, slow_facts, slow_keeps, slow_name_atoms, slow_once_ways, slow_strikes
from tests.slow_finite import BENT, all_roots, bent_book, shared_of, slow_is_good, slow_starters
from tests.test_ranks import NO_TURN, ONWARD
from tests.test_roots import book_of_96, book_of_97
from tests.test_tables import ELEVEN, WIDE, wide_forms

NEXT = ("some", atom(1, 0), TRUE, atom(0, 0, 1), atom(1, 1))
NO_BACK = ("all", atom(0, 0, 1), neg(atom(0, 1, 0)))


def shares_more(book):
    return any(form[0] == "some" and len(shared_of(form)) > 1 for form in book[1])


class StoreCase(unittest.TestCase):
    def kept(self, book, told=None):
        """The store for a book, looked at from all sides."""
        told = told or finite_store(book)
        self.assertIsNotNone(told)
        store, places = told
        self.assertIsNone(check_store(book[0], store))
        self.assertTrue(is_plain_value(told))
        self.assertIs(keeps_book(book, store, places), True)
        self.assertLessEqual(sum(store[0]), 2000)
        if sum(store[0]) <= 12:
            self.assertTrue(slow_keeps(book, store, places))
        return told


class GoodTest(unittest.TestCase):
    def test_facts_and_kinds(self):
        book = (ARROWS, (NO_BACK,), (0, 0), (atom(0, 0, 1),))
        self.assertIs(is_good(book, ((0, (0, 1)),)), True)
        self.assertIs(is_good(book=book, root=()), False)
        self.assertIs(is_good(book, ((0, (0, 1)), (0, (1, 0)))), False)
        self.assertIs(is_good(book, ((0, (0, 1)), (0, (1, 1)))), False)
        self.assertIs(is_good((ARROWS, (), (), ()), ()), True)

    def test_narrow_needs(self):
        stop = ("all", atom(0, 0, 1), neg(atom(1, 1)))
        self.assertIs(is_good((ARROWS, (NEXT, NO_BACK), (0,), ()), ((1, (0,)),)), True)
        self.assertIs(is_good((ARROWS, (NEXT, stop), (0,), ()), ((1, (0,)),)), False)
        self.assertIs(is_good((ARROWS, (NEXT, stop), (0,), ()), ()), True)

    def test_narrow_needs_met_among_the_names(self):
        # A thing with u needs a t that goes round, which no starting kind has; t among the names will do.
        asks = ("some", atom(2, 0), TRUE, atom(1, 1, 0, 2), neg(("equal", 1, 2)))
        round_of_three = ((1, (1, 0, 2)), (1, (2, 0, 3)), (1, (3, 0, 1)), (2, (0,)))
        book = (BENT, (ONWARD, NO_TURN, asks), (1, 0, 0, 0), ())
        self.assertIs(is_good(book, round_of_three), True)
        self.assertIs(is_good(book, round_of_three[3:]), False)
        self.assertIs(is_good(book, round_of_three[1:]), False)
        self.assertIs(is_good(book, round_of_three[:3]), True)
        # The same for a need without slots, with a sort for its head.
        apart = ("some", sort(0, 0), TRUE, sort(1, 1), atom(2, 1))
        book = book[:1] + (book[1] + (apart,),) + book[2:]
        self.assertIs(is_good(book, round_of_three), True)
        self.assertIs(is_good(book, round_of_three[:3]), False)

    def test_wide_needs_by_a_kind(self):
        # r(x, y) asks for t(x, z, y), and this for nothing
        form = ("some", atom(0, 0, 1), TRUE, atom(1, 0, 2, 1), TRUE)
        self.assertIs(is_good((BENT, (form,), (0, 0), ()), ((0, (0, 1)),)), True)
        self.assertIs(is_good((BENT, (form, ("all", atom(1, 0, 1, 2), FALSE)), (0, 0), ()), ((0, (0, 1)),)), False)
        # t with r there, but no way on
        self.assertIs(is_good((BENT, (form, ONWARD, NO_TURN), (0, 0), ()), ((0, (0, 1)),)), False)

    def test_wide_needs_that_are_settled_by_the_names(self):
        """The need of what is below the names is met among the names themselves."""
        language = (2, (("g", (0, 1)), ("h", (0, 1, 0)), ("k", (0, 1, 0))))
        # g(x, y) asks for an h, and where h(x, y, z) is, for a k that goes round
        forms = (
            ("some", atom(0, 0, 1), TRUE, atom(1, 0, 1, 2), TRUE),
            ("some", atom(0, 0, 1), TRUE, atom(2, 0, 1, 2), neg(("equal", 0, 2))),
            ("some", atom(2, 0, 1, 2), TRUE, atom(2, 2, 1, 3), TRUE), ("all", atom(2, 0, 1, 2), neg(atom(2, 2, 1, 0))),
        )
        book = (language, forms, (0, 0, 0, 1), ())
        root = ((0, (0, 3)), (2, (0, 3, 1)), (2, (1, 3, 2)), (2, (2, 3, 0)))
        self.assertIs(is_good(book, root), True)
        self.assertIs(is_good(book, root[:1]), False)
        self.assertIs(is_good(book, root[1:]), True)

    def test_made(self):
        seen = {}
        for seed in range(500):
            book = bent_book(seed)
            table = greatest_table(book[0], book[1])
            if len(table) > 40 or not shares_more(book) or len(slow_name_atoms(book)) > 5:
                continue
            kinds, starting = slow_starters(book[1], table)
            for root in all_roots(book):
                told = slow_is_good(book, root, kinds, starting)
                self.assertIs(is_good(book, root), told)
                key = (told, slow_facts(book, root), len(starting) < len(table))
                seen[key] = seen.get(key, 0) + 1
        self.assertGreater(seen[(True, True, True)], 50)
        self.assertGreater(seen[(False, True, True)], 20)

    def test_too_many(self):
        for language, forms in ((ELEVEN, ()), (WIDE, wide_forms(475))):
            with self.assertRaises(TooMany):
                is_good((language, forms, (), (FALSE,)), None)
        self.assertIs(is_good(book_of_97(), ()), True)


class FiniteStoreTest(StoreCase):
    def test_small(self):
        self.assertEqual(finite_store((ARROWS, (), (), ())), (((0,), ()), ()))
        self.assertEqual(finite_store(book=(ARROWS, (), (0, 0), (atom(0, 1, 0),))), (((2,), ((0, (1, 0)),)), (0, 1)))
        self.assertIsNone(finite_store((ARROWS, (), (0,), (FALSE,))))
        self.assertIsNone(finite_store((ARROWS, (("once", sort(0, 0), FALSE),), (), ())))

    def test_names_of_unlike_sorts(self):
        store, places = self.kept((TWO, (), (1, 0, 1), (atom(1, 0, 1), atom(2, 2))))
        self.assertEqual((store, places), (((1, 2), ((1, (1, 0)), (2, (2,)))), (1, 0, 2)))

    def test_narrow_needs(self):
        book = (ARROWS, (NEXT, NO_BACK), (0,), (atom(1, 0),))
        store, places = self.kept(book)
        self.assertGreaterEqual(store[0][0], 3)
        # with r there and back allowed, too
        self.kept((ARROWS, (NEXT,), (0,), (atom(1, 0), neg(atom(0, 0, 0)))))
        self.kept((ARROWS, (NEXT,), (0,), (atom(1, 0),)))

    def test_two_needs_that_ask_for_two_unlike_things(self):
        # Each thing has an r-next with p and one without, and r never turns back.
        forms = (("some", sort(0, 0), TRUE, atom(0, 0, 1), atom(1, 1)), ("some", sort(0, 0), TRUE, atom(0, 0, 1), neg(atom(1, 1))),
                 NO_BACK, ("once", sort(0, 0), TRUE))
        self.kept((ARROWS, forms, (), ()))
        self.kept((ARROWS, forms, (0, 0), (atom(1, 0), neg(atom(1, 1)), atom(0, 0, 1))))
        # The same at one row of two things: two wide needs that ask for unlike things.
        wide = (("some", atom(0, 0, 1), TRUE, atom(1, 0, 2, 1), atom(2, 2)), ("some", atom(0, 0, 1), TRUE, atom(1, 0, 2, 1), neg(atom(2, 2))))
        store, _ = self.kept((BENT, wide + (("once", atom(0, 0, 1), neg(("equal", 0, 1))),), (), ()))
        self.assertEqual(store[0], (2, 2))
        store, _ = self.kept((BENT, wide, (0, 0), (atom(0, 0, 1),)))
        self.assertEqual(store[0], (2, 2))

    def test_needs_without_slots(self):
        apart = ("some", sort(0, 0), TRUE, atom(0, 1, 2), both(atom(1, 1), neg(atom(1, 2))))
        store, _ = self.kept((ARROWS, (apart, ("once", sort(0, 0), TRUE)), (), ()))
        self.kept((ARROWS, (apart, NEXT, NO_BACK), (0,), ()))
        store, _ = self.kept((ARROWS, (apart,), (0, 0), (atom(0, 0, 1), atom(1, 0), neg(atom(1, 1)))))
        self.assertEqual(store, ((2,), ((0, (0, 1)), (1, (0,)))))

    def test_several_once_forms(self):
        forms = (("once", atom(1, 0), TRUE), ("once", sort(0, 0), neg(atom(1, 0))), ("once", atom(0, 0, 1), atom(1, 1)), NEXT, NO_BACK)
        self.kept((ARROWS, forms, (), ()))
        self.kept((ARROWS, forms, (0,), (neg(atom(1, 0)),)))
        self.assertIsNone(finite_store((ARROWS, forms + (("all", sort(0, 0), atom(1, 0)),), (), ())))

    def test_wide_needs(self):
        form = ("some", atom(0, 0, 1), TRUE, atom(1, 0, 2, 1), TRUE)
        more = ("some", atom(1, 0, 1, 2), TRUE, atom(1, 2, 1, 3), neg(atom(0, 2, 3)))
        self.kept((BENT, (form,), (0, 0), (atom(0, 0, 1),)))
        self.kept((BENT, (form, more), (0, 0), (atom(0, 0, 1),)))
        self.kept((BENT, (form, more, ("once", atom(0, 0, 1), neg(("equal", 0, 1)))), (), ()))
        self.kept((BENT, (form, more, ("some", sort(0, 0), TRUE, atom(0, 0, 1), neg(("equal", 0, 1)))), (0,), ()))

    def test_needs_that_go_round(self):
        book = (BENT, (ONWARD, NO_TURN, ("once", atom(1, 0, 1, 2), TRUE)), (), ())
        self.assertIs(has_store(book), True)
        told = finite_store(book)
        if told is not None:
            self.kept(book, told)
        # A root of names that goes round is good by itself.
        names = (0, 0, 0, 1)
        facts = (atom(1, 0, 3, 1), atom(1, 1, 3, 2), atom(1, 2, 3, 0))
        book = (BENT, (ONWARD, NO_TURN), names, facts)
        self.assertEqual(self.kept(book)[0][0], (3, 1))
        # Without the last fact the search has to go on behind roots that are not good.
        self.kept((BENT, (ONWARD, NO_TURN), names, facts[:2] + tuple(
            neg(atom(1, first, 3, last)) for first, last in ((0, 0), (0, 2), (1, 0), (1, 1), (2, 1), (2, 2)))))

    def test_made_with_one_shared_variable(self):
        seen = [0, 0]
        for seed in range(700):
            book = made_book((SMALL, TWO)[seed % 2], seed, 4)
            told = finite_store(book)
            self.assertEqual(told, finite_store(book))
            if told is not None:
                self.kept(book, told)
                self.assertIs(has_store(book), True)
            elif not shares_more(book):
                self.assertIs(has_store(book), False)
            seen[told is not None] += 1
        self.assertGreater(min(seen), 200)

    def test_made_with_wide_needs(self):
        seen = {}
        for seed in range(500):
            book = bent_book(seed, 3)
            told = finite_store(book)
            if told is not None:
                self.kept(book, told)
            elif not shares_more(book):
                self.assertIs(has_store(book), False)
            key = (told is not None, shares_more(book), has_store(book))
            seen[key] = seen.get(key, 0) + 1
        self.assertGreater(seen[(True, True, True)], 80)
        self.assertGreater(seen[(False, True, True)], 5)

    def test_not_none_where_a_root_is_good(self):
        seen = {}
        for seed in range(500):
            book = bent_book(seed)
            table = slow_strikes(book[0], book[1])[1] if seed < 40 else greatest_table(book[0], book[1])
            if len(table) > 40 or not shares_more(book) or len(slow_name_atoms(book)) > 5:
                continue
            kinds, starting = starters(book[0], book[1])
            right = all(form[0] != "once" or any(slow_once_ways(form, kind, False) for kind in starting) for form in book[1])
            right = right and any(slow_is_good(book, root, kinds, starting) for root in all_roots(book))
            told = finite_store(book)
            if right:
                self.kept(book, told)
            seen[(right, told is not None)] = seen.get((right, told is not None), 0) + 1
        self.assertGreater(seen[(True, True)], 50)
        self.assertGreater(seen[(False, False)], 50)


class TooManyTest(StoreCase):
    def test_sizes(self):
        for language, forms in ((ELEVEN, ()), (WIDE, wide_forms(475))):
            with self.assertRaises(TooMany):
                finite_store((language, forms + (("once", sort(0, 0), FALSE),), (), (FALSE,)))
        self.kept((WIDE, wide_forms(474), (0, 1, 2), ()))

    def test_96_and_97_atoms(self):
        self.kept(book_of_96())
        language, forms, names, facts = book_of_97()
        for more in ((), (("once", atom(0, 0, 1), FALSE),)):
            with self.assertRaises(TooMany):
                finite_store((language, forms + more, names, facts))

    def test_many_kinds(self):
        onward = tuple(("some", atom(number, 0), TRUE, atom(9, 0, 1), atom(number, 0)) for number in range(9))
        back = ("some", sort(1, 0), TRUE, atom(9, 1, 0), TRUE)
        self.kept((WIDE, wide_forms(474) + onward + (back,), (0, 1), (atom(9, 0, 1), atom(3, 0), atom(4, 0))))

    def test_many_things(self):
        """Each thing has nexts of 8 kinds, and r never turns back: at most 8 chunks for each kind and colour."""
        language = (1, (("r", (0, 0)), ("a", (0,)), ("b", (0,)), ("c", (0,))))
        forms = [NO_BACK, ("once", sort(0, 0), TRUE)]
        for number in range(8):
            e = both(*[atom(bit + 1, 1) if number >> bit & 1 else neg(atom(bit + 1, 1)) for bit in range(3)])
            forms.append(("some", sort(0, 0), TRUE, atom(0, 0, 1), e))
        store, _ = self.kept((language, tuple(forms), (), ()))
        self.assertLess(store[0][0], 8 * 8 * 3 + 2)


if __name__ == "__main__":
    unittest.main()
