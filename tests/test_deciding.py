"""[19]: whether some store keeps a book, and papers for it."""

import random
import unittest

from bagkinds.deciding import check_decision, decide, has_store
from bagkinds.errors import TooMany
from bagkinds.kinds import all_kinds
from bagkinds.needs import needs
from bagkinds.roots import is_root
from bagkinds.tables import greatest_table, is_table, strikes
from tests.helpers import ARROWS, FALSE, JUNK, TRUE, atom, both, deep, is_plain_value, item_at, neg, places_in, replaced, sort, without
from tests.slow import (
    SMALL, TWO, all_stores, made_book, slow_check, slow_keeps, slow_missing, slow_name_atoms, slow_needs, slow_once_ways,
    slow_roots, slow_strikes, slow_ways,
)
from tests.test_roots import book_of_96, book_of_97, unary_book
from tests.test_tables import CHAIN, ELEVEN, WIDE, next_with, wide_forms

ONWARD = ("some", atom(1, 0), TRUE, atom(0, 0, 1), atom(1, 1))
NO_TURN = ("all", atom(0, 0, 1), neg(atom(0, 1, 0)))
NO_NEXT_WITH_P = ("all", atom(0, 0, 1), neg(atom(1, 1)))
ONCE = ("once", atom(1, 0), TRUE)
STORE = (ARROWS, (ONWARD, NO_TURN, ONCE), (0, 0), (atom(0, 0, 1), atom(1, 0)))
NONE = (ARROWS, (ONWARD, NO_TURN, NO_NEXT_WITH_P, ONCE), (0,), ())
SHUT = (ARROWS, (ONWARD, NO_TURN, NO_NEXT_WITH_P), (0, 0), (atom(1, 0), atom(0, 0, 1)))
POINT = ((0,), ((1, (0,)),))


class HasStoreTest(unittest.TestCase):
    def test_books(self):
        self.assertIs(has_store(STORE), True)
        self.assertIs(has_store(book=NONE), False)
        self.assertIs(has_store(SHUT), False)
        self.assertIs(has_store((ARROWS, (), (), ())), True)
        self.assertIs(has_store((ARROWS, (), (), (FALSE,))), False)
        self.assertIs(has_store((ARROWS, (("once", sort(0, 0), FALSE),), (), ())), False)

    def test_stores_without_end_alone(self):
        """Each thing has an r-next, r gives u onward but never back: some store keeps this, but no tree ends it."""
        language = (1, (("r", (0, 0)), ("s", (0, 0))))
        forms = (("some", sort(0, 0), TRUE, atom(0, 0, 1), TRUE), ("once", sort(0, 0), TRUE),
                 ("all", atom(0, 0, 1), neg(atom(0, 1, 0))))
        self.assertIs(has_store((language, forms, (), ())), True)

    def test_small_stores(self):
        kept, lost = 0, 0
        for seed in range(200):
            book = made_book(SMALL, seed, 3, 2, 3)
            many = sum(slow_keeps(book, store, places) for store in all_stores(SMALL, 2)
                       for places in (((), (0,), (0, 1))[len(book[2])],) if len(book[2]) <= store[0][0])
            if many:
                self.assertIs(has_store(book), True)
                kept += 1
            elif not has_store(book):
                lost += 1
        self.assertGreater(min(kept, lost), 40)

    def test_made(self):
        seen = [0, 0]
        for seed in range(300):
            book = made_book((SMALL, TWO)[seed % 2], seed)
            kinds = slow_strikes(book[0], book[1])[1]
            if len(slow_name_atoms(book)) > 9:
                continue
            told = not slow_missing(book[1], kinds) and bool(slow_roots(book, kinds))
            self.assertIs(has_store(book), told)
            self.assertEqual(decide(book)[0], "store" if told else "none")
            seen[told] += 1
        self.assertGreater(min(seen), 80)


class TooManyTest(unittest.TestCase):
    def test_sizes(self):
        for language, forms in ((ELEVEN, ()), (WIDE, wide_forms(475))):
            book = (language, forms + (("once", sort(0, 0), FALSE),), (), (FALSE,))
            for call in (has_store, decide):
                with self.assertRaises(TooMany):
                    call(book)
            for value in (None, ("store",), ("none", (), ("once", len(forms))), deep(30)):
                with self.assertRaises(TooMany):
                    check_decision(book, value)
        self.assertIs(has_store((WIDE, wide_forms(474), (0, 1, 2), ())), True)

    def test_96_and_97_atoms(self):
        self.assertIs(has_store(book_of_96()), True)
        self.assertEqual(decide(book_of_96())[0], "store")
        for call in (has_store, decide):
            with self.assertRaises(TooMany):
                call(book_of_97())

    def test_a_missing_form_is_told_ahead_of_roots(self):
        language, forms, names, facts = book_of_97()
        book = (language, forms + (("once", atom(0, 0, 1), FALSE),), names, facts)
        self.assertIs(has_store(book), False)
        self.assertEqual(decide(book), ("none", (), ("once", len(forms))))
        self.assertIs(check_decision(book, decide(book)), True)

    def test_papers_with_more_than_96_atoms(self):
        book = book_of_97()
        kinds = tuple(kind for kind in greatest_table(book[0], book[1]) if not kind[1])
        self.assertEqual(len(kinds), 2)
        self.assertIs(check_decision(book, ("store", (), kinds, ((), ()), ())), True)
        self.assertIs(check_decision(book, ("store", (), kinds[:1], ((),), ())), False)
        clash = book[:3] + ((FALSE,),)
        self.assertIs(check_decision(clash, ("none", (), ("root", ("fact", 0)))), True)

    def test_many_kinds(self):
        onward = tuple(("some", atom(number, 0), TRUE, atom(9, 0, 1), atom(number, 0)) for number in range(9))
        book = (WIDE, wide_forms(474) + onward, (0, 1), (atom(9, 0, 1), atom(3, 0)))
        told = decide(book)
        self.assertEqual(told[0], "store")
        self.assertIs(check_decision(book, told), True)
        barred = book[:1] + (book[1] + (("all", atom(9, 0, 1), neg(atom(3, 0))),),) + book[2:]
        told = decide(barred)
        self.assertEqual(told[0], "none")
        self.assertIs(check_decision(barred, told), True)


class DecideTest(unittest.TestCase):
    def test_store(self):
        word, root, kinds, meets, onces = decide(STORE)
        self.assertEqual(word, "store")
        self.assertIs(is_root(STORE, root), True)
        self.assertEqual(kinds, tuple(sorted(set(kinds))))
        self.assertIs(is_table(ARROWS, STORE[1], kinds), True)
        self.assertEqual([len(pairs) for pairs in meets], [len(needs(STORE[1], kind)) for kind in kinds])
        self.assertEqual([number for number, _, _ in onces], [2])
        self.assertEqual(decide(book=STORE), decide(STORE))
        self.assertEqual(decide((ARROWS, (), (), ())), ("store", (), (), (), ()))

    def test_none(self):
        told = strikes(ARROWS, NONE[1])
        self.assertEqual(decide(NONE), ("none", told, ("once", 3)))
        word, struck, (end, tree) = decide(SHUT)
        self.assertEqual((word, struck, end), ("none", strikes(ARROWS, SHUT[1]), "root"))
        self.assertEqual(decide((ARROWS, (), (), (FALSE,))), ("none", (), ("root", ("fact", 0))))

    def test_first_missing_form_is_one_that_is_missing(self):
        forms = (ONCE, ("once", atom(0, 0, 0), FALSE), ("once", atom(0, 0, 1), FALSE))
        self.assertIn(decide((ARROWS, forms, (), (FALSE,)))[2], (("once", 1), ("once", 2)))

    def test_made(self):
        for seed in range(400):
            book = made_book((SMALL, TWO)[seed % 2], seed, 4, 3, 3)
            told = decide(book)
            self.assertTrue(is_plain_value(told))
            self.assertEqual(told, decide(book))
            self.assertTrue(slow_check(book, all_kinds(*book[:2]), told))
            self.assertIs(check_decision(book, told), True)
            if told[0] == "none":
                self.assertEqual(told[1], strikes(*book[:2]))
            else:
                self.assertEqual(told[2], tuple(sorted(set(told[2]))))


class CheckStoreTest(unittest.TestCase):
    def right(self, value, book=STORE):
        self.assertTrue(slow_check(book, all_kinds(*book[:2]), value))
        self.assertIs(check_decision(book, value), True)

    def wrong(self, value, book=STORE):
        self.assertIs(check_decision(book, value), False)

    def test_parameter_names(self):
        self.assertIs(check_decision(book=STORE, value=decide(STORE)), True)
        self.assertIs(check_decision(book=NONE, value=decide(STORE)), False)

    def test_whole_table_in_any_order(self):
        forms = STORE[1]
        kinds = list(greatest_table(ARROWS, forms))
        root = decide(STORE)[1]
        for seed in range(20):
            chance = random.Random(seed)
            chance.shuffle(kinds)
            meets = tuple(tuple(chance.choice(offers(forms, need, kind, kinds)) for need in slow_needs(forms, kind))
                          for kind in kinds)
            served = [(2, place, way) for place, kind in enumerate(kinds) for way in slow_once_ways(forms[2], kind, True)]
            value = ("store", root, tuple(kinds), meets, (chance.choice(served),))
            self.right(value)
            turned = list(range(1, len(kinds))) + [0]
            self.wrong(("store", root, tuple(kinds[place] for place in turned), meets, value[4]))
            self.wrong(("store", root, tuple(kinds), meets, ()))
            self.wrong(("store", root, tuple(kinds), meets, value[4] * 2))
            self.wrong(("store", root, tuple(kinds), meets[:-1], value[4]))
            self.wrong(("store", root, tuple(kinds) + tuple(kinds[:1]), meets + meets[:1], value[4]))

    def test_ways_that_are_not_the_least(self):
        # a next with r there and back: two ways in one kind
        form = ("some", sort(0, 0), TRUE, atom(0, 1, 2), both(atom(0, 2, 1), atom(1, 1), atom(1, 2)))
        book = (ARROWS, (form, ("once", atom(0, 5, 4), both(atom(0, 4, 5), atom(1, 5), atom(1, 4)))), (), ())
        kind = ((0, 0), ((0, (0, 1)), (0, (1, 0)), (1, (0,)), (1, (1,))))
        for way in ((0, 1), (1, 0)):
            for other in ((0, 1), (1, 0)):
                self.right(("store", (), (kind,), (((0, way),),), ((1, 0, other),)), book)
        for way in ((0, 0), (1, 1), (0,), (0, 1, 0), (0, 2), (-1, 0), (False, True), (0, True), None, 0, "01", ((0,), 1)):
            self.wrong(("store", (), (kind,), (((0, way),),), ((1, 0, (0, 1)),)), book)
            self.wrong(("store", (), (kind,), (((0, (0, 1)),),), ((1, 0, way),)), book)

    def test_places(self):
        value = decide(STORE)
        for path in ((3, 0), (3, 1), (4,)):
            pairs = item_at(value, path)
            for k in range(len(pairs)):
                for place in (-1, len(value[2]), True, False, None, "0", (0,), 10 ** 59):
                    self.wrong(replaced(value, path + (k, 1 if path == (4,) else 0), place))

    def test_kinds_that_are_none(self):
        book = (ARROWS, (NO_TURN,), (0,), ())
        for kind in (((0, 0), ()), ((0, 0), ((0, (0, 1)), (0, (1, 0)))), ((0,), ((0, (0, 0)),)), ((0, 0), ((0, (1, 0)),)),
                     ((0,), ((2, (0,)),)), ((1,), ()), ((), ()), ((0,), ((1, (0,)), (1, (0,)))), ((False,), ()),
                     ((0,), ((True, (0,)),)), ((0,), ((1, (False,)),)), ((0,),), ((0,), (), ()), ((0,), None), (0, ())):
            one = ((0,), ())
            self.wrong(("store", (), (one, kind), ((), ()), ()), book)
        self.right(("store", (), (((0,), ()), ((0,), ((1, (0,)),))), ((), ()), ()), book)
        self.right(("store", (), (((0,), ((1, (0,)),)), ((0,), ())), ((), ()), ()), book)

    def test_roots(self):
        one, point, pair = ((0,), ()), POINT, ((0, 0), ((0, (0, 1)),))
        book = (ARROWS, (("all", atom(0, 0, 1), neg(atom(1, 0))), NO_TURN), (0, 0), ())
        kinds = (one, point, pair)

        def paper(root):
            return ("store", root, kinds, ((), (), ()), ())
        for root in ((), ((0, (0, 1)),), ((1, (0,)),), ((0, (1, 0)),), ((1, (0,)), (1, (1,)))):
            self.right(paper(root), book)
        for root in (((0, (0, 0)),), ((0, (0, 1)), (0, (1, 0))), ((1, (1,)), (1, (0,))), ((1, (0,)), (1, (0,))), ((2, (0,)),),
                     ((1, (2,)),), ((1, (0, 1)),), ((1, (False,)),), ((True, (0,)),), (((1,), (0,)),), None, 0, "x",
                     ((1, 0),), ((1, None),), (None,), ((1,),), ((-1, (0,)),), ((0, (0, 1)), (1, (0,)))):
            self.wrong(paper(root), book)
        self.wrong(("store", ((1, (0,)),), (one, pair), ((), ()), ()), book)
        self.right(("store", (), (one,), ((),), ()), book)
        self.wrong(("store", (), (), (), ()), book)
        facts = book[:3] + ((atom(1, 0),),)
        self.right(paper(((1, (0,)),)), facts)
        self.wrong(paper(((1, (1,)),)), facts)
        # An atom of a relation that occurs nowhere stands in no root.
        nowhere = (ARROWS, (NO_TURN,), (0,), ())
        self.wrong(("store", ((1, (0,)),), (one, point), ((), ()), ()), nowhere)

    def test_ways_that_leave_a_slot(self):
        form, once = ("some", atom(1, 0), TRUE, sort(0, 1), both(atom(1, 1), atom(0, 1, 1))), ("once", atom(1, 0), TRUE)
        book = (ARROWS, (form, once), (), ())
        loop, pair = ((0,), ((0, (0, 0)), (1, (0,)))), ((0, 0), ((0, (0, 0)), (0, (0, 1)), (1, (0,))))
        self.right(("store", (), (loop, pair), (((0, (0,)),), ((0, (0,)),)), ((1, 0, (0,)),)), book)
        self.wrong(("store", (), (loop, pair), (((0, (0,)),), ((1, (0,)),)), ((1, 0, (0,)),)), book)
        self.wrong(("store", (), (loop, pair), (((0, (0,)),), ((0, (0,)),)), ((1, 1, (0,)),)), book)

    def test_needs_left_out(self):
        value = decide(STORE)
        for k, pairs in enumerate(value[3]):
            if pairs:
                self.wrong(replaced(value, (3, k), pairs[1:]))
                self.wrong(replaced(value, (3, k), pairs + pairs[-1:]))
        self.wrong(value[:4])
        self.wrong(value + ((),))

    def test_once_forms(self):
        forms = (("once", atom(1, 0), TRUE), NO_TURN, ("once", sort(0, 0), TRUE))
        book = (ARROWS, forms, (), ())
        one = ((0,), ())
        first, last = (0, 1, (0,)), (2, 0, (0,))
        self.right(("store", (), (one, POINT), ((), ()), (first, last)), book)
        self.right(("store", (), (POINT,), ((),), ((0, 0, (0,)), (2, 0, (0,)))), book)
        for onces in ((last, first), (first,), (first, first), ((False, 1, (0,)), last), (first, (True, 0, (0,))),
                      ((0, 0, (0,)), last), ((0, 1, (1,)), last), ((0, 1), last), (first, (1, 0, (0,))), None, (first, None),
                      (first, last, last), ((0, 1, (0,), 0), last), ((0, True, (0,)), last), ((0, 1, (0, 0)), last)):
            self.wrong(("store", (), (one, POINT), ((), ()), onces), book)


def offers(forms, need, kind, kinds):
    return [(place, way) for place, other in enumerate(kinds) for way in slow_ways(forms, need, kind, other, True)]


class CheckNoneTest(unittest.TestCase):
    forms = (next_with(1, 2), next_with(2, 3), ("all", atom(3, 0), FALSE), ("once", atom(1, 0), TRUE))
    book = (CHAIN, forms, (0,), (atom(2, 0),))
    # the one kind by which a thing with a alone has a next with b alone
    onward = ((0, 0), ((0, (0, 1)), (1, (0,)), (2, (1,))))

    def right(self, value, book=None):
        self.assertIs(check_decision(book or self.book, value), True)

    def wrong(self, value, book=None):
        self.assertIs(check_decision(book or self.book, value), False)

    def test_any_allowed_order(self):
        told = strikes(CHAIN, self.forms)
        first = [pair for pair in told if pair[1][0] == 1]
        second = [pair for pair in told if pair[1][0] == 0]
        self.assertTrue(first and second)
        end = ("once", 3)
        for seed in range(10):
            chance = random.Random(seed)
            chance.shuffle(first)
            chance.shuffle(second)
            self.right(("none", tuple(first + second), end))
            self.right(("none", tuple(first + second + first[:2]), end))
            self.wrong(("none", tuple(second + first), end))
            self.wrong(("none", tuple(first), end))
            self.wrong(("none", tuple([pair for pair in first if pair[0] != self.onward] + second), end))
        self.assertTrue(slow_check(self.book, all_kinds(CHAIN, self.forms), ("none", told, end)))

    def test_one_left_out_that_serves_nothing(self):
        told = strikes(CHAIN, self.forms)
        # A kind of two things with b serves no form, so it need not be struck if it meets none of the later needs.
        shorter = [value for k in range(len(told)) for value in [told[:k] + told[k + 1:]]]
        kinds = all_kinds(CHAIN, self.forms)
        seen = [0, 0]
        for struck in shorter:
            value = ("none", struck, ("once", 3))
            told = slow_check(self.book, kinds, value)
            self.assertIs(check_decision(self.book, value), told)
            seen[told] += 1
        self.assertGreater(min(seen), 0)

    def test_needs(self):
        told = strikes(CHAIN, self.forms)
        kind, need = told[0]
        for value in ((0, (0,)), (1, (1,)), (2, (0,)), (3, (0,)), (4, (0,)), (-1, (0,)), (True, (0,)), (1, (False,)), (1, ()),
                      (1, 0), (1,), None, 1, (1, (0,), 0), (1, (0, 0)), (10 ** 59, (0,)), (1, (10 ** 59,)), ("1", (0,))):
            if value != need or type(value[0]) is bool or type(value[1][0]) is bool:
                self.wrong(("none", ((kind, value),) + told[1:], ("once", 3)))
        self.right(("none", ((kind, need),) + told[1:], ("once", 3)))

    def test_struck_in_one_of_two_needs(self):
        forms = (next_with(1, 2), next_with(1, 3), ("all", atom(3, 0), FALSE), ("all", atom(2, 0), FALSE), self.forms[3])
        book = (CHAIN, forms, (), ())
        told = strikes(CHAIN, forms)
        self.assertTrue(told and all(need == (0, (0,)) or need == (0, (1,)) for _, need in told))
        self.right(("none", told, ("once", 4)), book)
        other = tuple((kind, (1, need[1])) for kind, need in told)
        self.right(("none", other, ("once", 4)), book)
        self.right(("none", other + told, ("once", 4)), book)

    def test_ends(self):
        told = strikes(CHAIN, self.forms)
        tree = ("atom", (2, (0,)), ("set", (0,)), ("fact", 0))
        self.right(("none", told, ("root", tree)))
        self.wrong(("none", told, ("root", ("set", (0,)))))
        self.wrong(("none", (), ("root", tree)))
        self.wrong(("none", told, ("root", replaced(tree, (3,), ("fact", 1)))))
        for end in (("once", 0), ("once", 2), ("once", 4), ("once", -1), ("once", True), ("once", None), ("once",), ("once", 3, 3),
                    ("root", 3), ("root",), ("store", 3), (3,), None, 3, "once", ("once", (3,)), (None, 3), ("fact", 0)):
            self.wrong(("none", told, end))

    def test_exact(self):
        """What is left is asked with all slots: pairs that have not been struck serve and meet nothing here."""
        once = ("once", atom(1, 0), TRUE)
        struck = strikes(ARROWS, NONE[1])
        self.assertEqual(struck[0][0], POINT)
        self.right(("none", struck[:1], ("once", 3)), NONE)
        self.wrong(("none", struck[1:], ("once", 3)), NONE)
        # p asks for a thing with q, and q for what never is
        language = (1, (("r", (0, 0)), ("p", (0,)), ("q", (0,))))
        forms = (("some", atom(1, 0), TRUE, sort(0, 1), atom(2, 1)), ("some", atom(2, 0), TRUE, sort(0, 1), FALSE), once)
        book = (language, forms, (), ())
        single = [kind for kind in all_kinds(language, forms) if len(kind[0]) == 1]
        first = tuple((kind, (1, ())) for kind in single if (2, (0,)) in kind[1])
        second = tuple((kind, (0, ())) for kind in single if (1, (0,)) in kind[1] and (2, (0,)) not in kind[1])
        self.assertEqual((len(first), len(second)), (4, 2))
        self.right(("none", first + second, ("once", 2)), book)
        self.wrong(("none", first[1:] + second, ("once", 2)), book)
        self.wrong(("none", first + second[1:], ("once", 2)), book)

    def test_truth_for_the_number_of_a_once_form(self):
        never = ("once", sort(0, 0), FALSE)
        book = (ARROWS, (never, never), (), ())
        for number in (0, 1):
            self.right(("none", (), ("once", number)), book)
            self.wrong(("none", (), ("once", number == 1)), book)
        self.wrong(("none", (), ("once", 2)), book)

    def test_tree_with_the_kinds_left(self):
        """The tree is for the kinds left, also where these are more than the greatest table."""
        told = strikes(CHAIN, self.forms)
        tree = ("atom", (2, (0,)), ("set", (0,)), ("fact", 0))
        first = tuple(pair for pair in told if pair[1][0] == 1)
        self.right(("none", first, ("root", tree)))
        other = self.book[:3] + ((atom(1, 0),),)
        tree = ("atom", (1, (0,)), ("set", (0,)), ("fact", 0))
        self.wrong(("none", first, ("root", tree)), other)
        self.right(("none", told, ("root", tree)), other)

    def test_strikes_with_none_due(self):
        self.wrong(("none", ((POINT, (0, (0,))),), ("once", 2)), STORE)
        self.right(("none", (), ("root", ("fact", 0))), (ARROWS, (), (), (FALSE,)))
        self.wrong(("none", (), ("root", ("fact", 0))), (ARROWS, (), (), (TRUE,)))
        self.right(("none", (), ("once", 0)), (ARROWS, (("once", sort(0, 0), FALSE),), (0,), ()))

    def test_kind_that_meets_its_own_need(self):
        # The loop alone meets its own need, so it is never struck.
        forms = (("some", sort(0, 0), TRUE, atom(0, 0, 1), TRUE), ("all", atom(0, 0, 1), ("equal", 0, 1)))
        loop, one = ((0,), ((0, (0, 0)),)), ((0,), ())
        book = ((1, (("r", (0, 0)),)), forms, (), (FALSE,))
        self.right(("none", ((one, (0, (0,))),), ("root", ("fact", 0))), book)
        self.wrong(("none", ((loop, (0, (0,))),), ("root", ("fact", 0))), book)
        self.wrong(("none", ((one, (0, (0,))), (loop, (0, (0,)))), ("root", ("fact", 0))), book)


class JunkTest(unittest.TestCase):
    def test_spoilt(self):
        """Junk at each place of papers, and each item left out."""
        small = (1, (("r", (0, 0)), ("a", (0,)), ("b", (0,))))
        none = (small, (next_with(1, 2), ("all", atom(2, 0), FALSE), ("once", atom(1, 0), TRUE)), (), ())
        taken = 0
        for book in (STORE, NONE, SHUT, none):
            paper, kinds = decide(book), all_kinds(*book[:2])
            for path in places_in(paper):
                for junk in JUNK:
                    self.assertIs(check_decision(book, replaced(paper, path, junk)), False, (path, junk))
                if path:
                    value = without(paper, path)
                    told = slow_check_any(book, kinds, value)
                    self.assertIs(check_decision(book, value), told, path)
                    taken = taken + told

        self.assertGreater(taken, 0)

    def test_other_shapes(self):
        for book in (STORE, NONE, SHUT):
            for value in JUNK + ((), ("store",), ("none",), ("store",) + ((),) * 4, ("none", (), ()), deep(30), "store"):
                self.assertIs(check_decision(book, value), False)

    def test_other_classes(self):
        class Row(tuple):
            pass
        for book in (STORE, NONE, SHUT):
            paper = decide(book)
            self.assertIs(check_decision(book, Row(paper)), False)
            for path in places_in(paper):
                if type(item_at(paper, path)) is tuple:
                    self.assertIs(check_decision(book, replaced(paper, path, Row(item_at(paper, path)))), False)

    def test_truth_for_numbers(self):
        for book in (STORE, NONE, SHUT):
            paper = decide(book)
            for path in places_in(paper):
                number = item_at(paper, path)
                if type(number) is int and number in (0, 1):
                    self.assertIs(check_decision(book, replaced(paper, path, number == 1)), False)

    def test_large_trees(self):
        book = unary_book(12, (FALSE,))
        large = ("fact", 0)
        for number in range(11):
            large = ("atom", (number % 8, (number // 8,)), large, large)
        self.assertIs(check_decision(book, ("none", (), ("root", large))), True)
        self.assertIs(check_decision(book, ("none", (), ("root", replaced(large, (2,) * 11, ("fact", 1))))), False)

    def test_large_own_trees(self):
        """A tree as deep as there are atoms, which decide makes itself."""
        facts = tuple(atom(number % 8, number // 8) for number in range(79)) + (both(atom(7, 9), neg(atom(7, 9))),)
        book = unary_book(10, facts)
        told = decide(book)
        self.assertEqual(told[:2], ("none", ()))
        self.assertEqual(len(list(places_in(told))) > 400, True)
        self.assertIs(check_decision(book, told), True)


def slow_check_any(book, kinds, value):
    """slow_check, but False where it cannot read a value."""
    try:
        return slow_check(book, kinds, value)
    except (IndexError, TypeError, ValueError):
        return False


if __name__ == "__main__":
    unittest.main()
