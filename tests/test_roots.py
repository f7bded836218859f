"""[18]: roots, the search for one, and shut trees."""

import itertools
import random
import unittest

from bagkinds.errors import TooMany
from bagkinds.roots import check_shut, find_root, is_root, name_atoms, root_kind, root_sets
from bagkinds.tables import greatest_table
from tests.helpers import ARROWS, FALSE, JUNK, MIXED, TRUE, atom, both, deep, either, is_plain_value, neg, replaced, sort, spoilt
from tests.slow import (
    SMALL, TWO, made_book, slow_is_root, slow_name_atoms, slow_root_kind, slow_roots, slow_sets, slow_shut, slow_strikes,
)
from tests.test_tables import ELEVEN, WIDE, wide_forms

NO_TURN = ("all", atom(0, 0, 1), neg(atom(0, 1, 0)))
BOOK = (ARROWS, (NO_TURN,), (0, 0), (atom(0, 0, 1),))


def unary_book(names, facts):
    """A book with unary relations alone, so that it has names times 8 atoms over names."""
    language = (1, tuple(("n" + letter, (0,)) for letter in "abcdefgh"))
    once = tuple(("all", atom(number, 0), TRUE) for number in range(8))
    return (language, once, (0,) * names, facts)


LOOPS = (2, (("r", (0, 0)),) + tuple(("u" + letter, (1,)) for letter in "abcdefgh"))


def book_of_96():
    """81 atoms of r and 15 of five other relations."""
    forms = (("all", atom(0, 0, 1), TRUE),) + tuple(("all", atom(number, 0), TRUE) for number in range(1, 6))
    return (LOOPS, forms, (0,) * 9 + (1,) * 3, ())


def book_of_97():
    """81 atoms of r and 16 of eight other relations."""
    forms = (("all", atom(0, 0, 1), TRUE),) + tuple(("all", atom(number, 0), TRUE) for number in range(1, 9))
    return (LOOPS, forms, (0,) * 9 + (1,) * 2, ())


class NameAtomsTest(unittest.TestCase):
    def test_relations_in_forms_and_facts(self):
        self.assertEqual(name_atoms(BOOK), tuple((0, pair) for pair in ((0, 0), (0, 1), (1, 0), (1, 1))))
        self.assertEqual(name_atoms(book=(ARROWS, (), (0, 0), (neg(atom(1, 1)),))), ((1, (0,)), (1, (1,))))
        self.assertEqual(name_atoms((ARROWS, (), (0, 0), (TRUE, ("equal", 0, 1)))), ())
        self.assertEqual(name_atoms((ARROWS, (NO_TURN,), (), ())), ())
        self.assertEqual(len(name_atoms((ARROWS, (NO_TURN,), (0, 0), (atom(1, 0),)))), 6)

    def test_all_parts_of_forms(self):
        language = (1, tuple((letter, (0,)) for letter in "abcd") + (("r", (0, 0)),))
        some = ("some", atom(0, 0), either(atom(1, 0), FALSE), atom(4, 0, 1), neg(both(atom(2, 1))))
        self.assertEqual(name_atoms((language, (some,), (0,), ())), ((0, (0,)), (1, (0,)), (2, (0,)), (4, (0, 0))))
        once = ("once", atom(3, 0), atom(2, 0))
        self.assertEqual(name_atoms((language, (once,), (0,), ())), ((2, (0,)), (3, (0,))))
        self.assertEqual(name_atoms((language, (("all", sort(0, 0), atom(3, 0)),), (0,), ())), ((3, (0,)),))
        self.assertEqual(name_atoms((language, (("once", sort(0, 0), TRUE),), (0,), ())), ())

    def test_sorts_in_any_order(self):
        book = (TWO, (), (1, 0, 1), (atom(1, 0, 1),))
        self.assertEqual(name_atoms(book), ((1, (0, 1)), (1, (2, 1))))
        book = (MIXED, (), (2, 0, 1), (atom(5, 0, 2, 1, 0),))
        self.assertEqual(name_atoms(book), ((5, (0, 2, 1, 0)),))

    def test_many(self):
        book = ((1, (("q", (0,) * 4), ("s", (0,) * 4))), (), (0,) * 12, (atom(1, 0, 0, 0, 0),))
        self.assertEqual(len(name_atoms(book)), 20736)
        self.assertTrue(all(number == 1 for number, _ in name_atoms(book)))

    def test_made(self):
        for seed in range(200):
            book = made_book(MIXED, seed, 3, 4, 3)
            self.assertEqual(name_atoms(book), slow_name_atoms(book))
            self.assertTrue(is_plain_value(name_atoms(book)))


class RootSetsTest(unittest.TestCase):
    def test_sets(self):
        self.assertEqual(root_sets(BOOK, ()), ((0,), (1,)))
        self.assertEqual(root_sets(book=BOOK, root=((0, (1, 0)), (0, (1, 1)))), ((0,), (0, 1), (1,)))
        self.assertEqual(root_sets((ARROWS, (), (), ()), ()), ())
        book = (MIXED, (), (2, 0, 1, 0), ())
        self.assertEqual(root_sets(book, ((0, (1, 1)), (4, (3, 1, 2)), (5, (0, 2, 3, 0)))),
                         ((0,), (0, 2, 3), (1,), (1, 2, 3), (2,), (3,)))

    def test_kinds(self):
        self.assertEqual(root_kind(BOOK, ((0, (1, 0)),), (0, 1)), ((0, 0), ((0, (0, 1)),)))
        self.assertEqual(root_kind(book=BOOK, root=((0, (1, 0)), (0, (1, 1))), names=(1,)), ((0,), ((0, (0, 0)),)))
        self.assertEqual(root_kind(BOOK, ((0, (1, 0)), (0, (1, 1))), (0,)), ((0,), ()))
        book = (TWO, (), (1, 0, 1), ())
        self.assertEqual(root_kind(book, ((1, (0, 1)), (1, (2, 1)), (2, (2,))), (1, 2)), ((0, 1), ((1, (1, 0)), (2, (1,)))))

    def test_made(self):
        for seed in range(100):
            book = made_book(TWO, seed, 2, 4, 3)
            for root in itertools.islice(some_roots(book), 8):
                self.assertEqual(root_sets(book, root), slow_sets(book, root))
                for names in root_sets(book, root):
                    self.assertEqual(root_kind(book, root, names), slow_root_kind(book, root, names))


def some_roots(book):
    """Every third set of atoms over names, the largest ones last."""
    atoms = slow_name_atoms(book)
    for number in range(0, 2 ** min(len(atoms), 12), 3):
        yield tuple(pair for place, pair in enumerate(atoms) if number >> place & 1)


class IsRootTest(unittest.TestCase):
    def test_roots(self):
        self.assertIs(is_root(BOOK, ((0, (0, 1)),)), True)
        self.assertIs(is_root(book=BOOK, root=()), False)
        self.assertIs(is_root(BOOK, ((0, (0, 1)), (0, (1, 0)))), False)
        self.assertIs(is_root(BOOK, ((0, (0, 0)), (0, (0, 1)))), False)
        self.assertIs(is_root((ARROWS, (), (), ()), ()), True)
        self.assertIs(is_root((ARROWS, (), (), (FALSE,)), ()), False)

    def test_kinds_of_sets_of_two(self):
        # each thing with p is alone
        book = (ARROWS, (("all", atom(0, 0, 1), neg(atom(1, 0))),), (0, 0), (atom(1, 0),))
        self.assertIs(is_root(book, ((1, (0,)),)), True)
        self.assertIs(is_root(book, ((0, (1, 0)), (1, (0,)))), True)
        self.assertIs(is_root(book, ((0, (0, 1)), (1, (0,)))), False)

    def test_kinds_that_are_struck(self):
        onward = ("some", atom(1, 0), TRUE, atom(0, 0, 1), FALSE)
        self.assertIs(is_root((ARROWS, (onward,), (0,), ()), ((1, (0,)),)), False)
        self.assertIs(is_root((ARROWS, (onward,), (0,), ()), ()), True)

    def test_made(self):
        seen = [0, 0]
        for seed in range(120):
            book = made_book((SMALL, TWO)[seed % 2], seed, 2, 3, 2)
            kinds = slow_strikes(book[0], book[1])[1]
            for root in itertools.islice(some_roots(book), 12):
                told = slow_is_root(book, kinds, root)
                self.assertIs(is_root(book, root), told)
                seen[told] += 1
        self.assertGreater(min(seen), 100)

    def test_too_many(self):
        for language, forms in ((ELEVEN, ()), (WIDE, wide_forms(475))):
            for root in ((), None, "x"):
                with self.assertRaises(TooMany):
                    is_root((language, forms, (), (FALSE,)), root)
            for call in (find_root, lambda book: check_shut(book, None)):
                with self.assertRaises(TooMany):
                    call((language, forms, (), (FALSE,)))
        self.assertIs(is_root((WIDE, wide_forms(474), (0, 2), ()), ()), True)


class FindRootTest(unittest.TestCase):
    def test_one_root_only(self):
        facts = (atom(0, 0, 1), neg(atom(0, 1, 1)))
        book = (ARROWS, (NO_TURN,), (0, 0), facts)
        self.assertEqual(find_root(book), ((0, (0, 1)),))
        self.assertEqual(find_root(book=book), ((0, (0, 1)),))

    def test_none(self):
        self.assertIsNone(find_root((ARROWS, (NO_TURN,), (0, 0), (atom(0, 0, 1), atom(0, 1, 0)))))
        self.assertIsNone(find_root((ARROWS, (), (), (FALSE,))))
        self.assertIsNone(find_root((ARROWS, (("all", sort(0, 0), FALSE),), (0,), ())))
        self.assertEqual(find_root((ARROWS, (("all", sort(0, 0), FALSE),), (), ())), ())
        self.assertIsNone(find_root((ARROWS, (), (0, 0), (("equal", 0, 1),))))

    def test_96_atoms_with_facts(self):
        facts = tuple(atom(number % 8, number // 8) for number in range(80))
        told = find_root(unary_book(12, facts))
        self.assertEqual(told, tuple(sorted((number % 8, (number // 8,)) for number in range(80))))
        self.assertIsNone(find_root(unary_book(12, (FALSE,))))
        # more than 96, though a fact is false from the beginning
        with self.assertRaises(TooMany):
            find_root(((1, (("r", (0, 0)),)), (), (0,) * 10, (both(atom(0, 0, 0), FALSE),)))

    def test_just_96_and_97_atoms(self):
        for book, many in ((book_of_96(), 96), (book_of_97(), 97)):
            self.assertEqual(len(name_atoms(book)), many)
        self.assertEqual(find_root(book_of_96()), ())
        self.assertIs(is_root(book_of_97(), ()), True)
        with self.assertRaises(TooMany):
            find_root(book_of_97())

    def test_many_choices_that_are_given_up_at_once(self):
        # Each fact leaves one way, so the search is told one way after the other.
        facts = tuple(either(atom(number % 8, number // 8), FALSE) for number in range(80))
        self.assertEqual(len(find_root(unary_book(10, facts))), 80)

    def test_searches_of_16382_choices(self):
        """13 atoms, of which the last one alone cannot be told: the whole plain search is below the bound."""
        forms = (("all", atom(0, 0, 1), TRUE),) + tuple(("all", atom(number, 0), TRUE) for number in range(1, 5))
        book = (LOOPS, forms, (0, 0, 0, 1), (both(atom(4, 3), neg(atom(4, 3))),))
        self.assertEqual(len(name_atoms(book)), 13)
        self.assertIsNone(find_root(book))
        # The same with a fact by which only the last root is one
        book = book[:3] + (tuple(atom(*pair[:1], *pair[1]) for pair in name_atoms(book)),)
        self.assertEqual(find_root(book), name_atoms(book))
        whole = book[:3] + ((both(*book[3]),),)
        self.assertEqual(find_root(whole), name_atoms(book))

    def test_relations_in_neither(self):
        # p is in no form or fact: it does not stand, though kinds with it are in the table.
        book = (ARROWS, (NO_TURN,), (0, 0), (atom(0, 1, 0),))
        self.assertEqual(find_root(book), ((0, (1, 0)),))

    def test_made(self):
        seen = [0, 0]
        for seed in range(300):
            book = made_book((SMALL, TWO)[seed % 2], seed, 3, 3, 4)
            if len(slow_name_atoms(book)) > 9:
                continue
            roots = slow_roots(book, slow_strikes(book[0], book[1])[1])
            told = find_root(book)
            if roots:
                self.assertIn(told, roots)
                self.assertIs(is_root(book, told), True)
                self.assertEqual(told, find_root(book))
            else:
                self.assertIsNone(told)
            seen[bool(roots)] += 1
        self.assertGreater(min(seen), 40)


class CheckShutTest(unittest.TestCase):
    r01, r10 = (0, (0, 1)), (0, (1, 0))
    book = (ARROWS, (NO_TURN,), (0, 0), (atom(0, 0, 1), either(atom(0, 1, 0), atom(0, 0, 0))))

    def right(self, value, book=None):
        self.assertIs(check_shut(book or self.book, value), True)

    def wrong(self, value, book=None):
        self.assertIs(check_shut(book or self.book, value), False)

    def tree(self):
        inner = ("atom", (0, (0, 0)), ("set", (0,)), ("fact", 1))
        return ("atom", self.r01, ("atom", self.r10, ("set", (0, 1)), inner), ("fact", 0))

    def test_tree(self):
        self.right(self.tree())
        self.assertIs(check_shut(book=self.book, value=self.tree()), True)
        self.assertTrue(slow_shut(self.book, greatest_table(*self.book[:2]), {}, self.tree()))

    def test_facts(self):
        self.wrong(("fact", 0))
        self.wrong(("fact", 1))
        self.wrong(("atom", self.r01, ("fact", 0), ("fact", 0)))
        self.right(("fact", 1), (ARROWS, (), (0,), (TRUE, FALSE)))
        self.wrong(("fact", 0), (ARROWS, (), (0,), (TRUE, FALSE)))
        for number in (2, -1, True, None, "1", (1,), 10 ** 59):
            self.wrong(("fact", number), (ARROWS, (), (0,), (TRUE, FALSE)))

    def test_three_values(self):
        p = atom(1, 0)
        for fact, told in (
            (both(p, neg(p)), False), (both(p, FALSE), True), (either(p, FALSE), False), (neg(either(p, TRUE)), True),
            (both(("equal", 0, 1), p), True), (neg(both(("equal", 0, 0), p)), False), (neg(("equal", 0, 0)), True),
            (neg(neg(either())), True), (neg(p), False),
        ):
            self.assertIs(check_shut((ARROWS, (), (0, 0), (fact,)), ("fact", 0)), told)

    def test_sets_of_one_name(self):
        loop = (0, (0, 0))
        self.right(("atom", loop, ("set", (0,)), ("fact", 0)), (ARROWS, (NO_TURN,), (0,), (atom(0, 0, 0),)))
        self.wrong(("atom", loop, ("fact", 0), ("set", (0,))), (ARROWS, (NO_TURN,), (0,), (atom(0, 0, 0),)))
        self.right(("set", (0,)), (ARROWS, (("all", sort(0, 0), FALSE),), (0,), ()))
        self.right(("set", (1,)), (TWO, (("all", sort(0, 0), FALSE),), (1, 0), ()))
        self.wrong(("set", (0,)), (TWO, (("all", sort(0, 0), FALSE),), (1, 0), ()))

    def test_sets_that_are_not_told(self):
        # The two names are no set as long as no atom of both is told to stand.
        book = (ARROWS, (("all", atom(0, 0, 1), FALSE),), (0, 0), (either(atom(0, 0, 1), atom(0, 1, 0)),))
        self.wrong(("set", (0, 1)), book)
        self.wrong(("atom", self.r01, ("set", (0, 1)), ("set", (0, 1))), book)
        self.right(("atom", self.r01, ("set", (0, 1)), ("atom", self.r10, ("set", (0, 1)), ("fact", 0))), book)
        self.wrong(("atom", self.r01, ("set", (1, 0)), ("atom", self.r10, ("set", (0, 1)), ("fact", 0))), book)
        for names in ((), (0, 0), (0, 1, 1), (2,), (-1,), (True,), (False,), (None,), ((0,),), 0, None, "0", (0, 10 ** 59)):
            self.wrong(("atom", self.r01, ("set", names), ("atom", self.r10, ("set", (0, 1)), ("fact", 0))), book)

    def test_sets_with_atoms_of_other_sets(self):
        # p of the one, and r from it: no kind has both
        book = (ARROWS, (("all", atom(0, 0, 1), neg(atom(1, 0))),), (0, 0), (atom(1, 0), atom(0, 0, 1)))
        p = (1, (0,))
        self.right(("atom", p, ("atom", self.r01, ("set", (0, 1)), ("fact", 1)), ("fact", 0)), book)
        self.wrong(("atom", (1, (1,)), ("atom", self.r01, ("set", (0, 1)), ("fact", 1)), ("fact", 0)), book)
        self.right(("atom", self.r01, ("atom", p, ("set", (0, 1)), ("fact", 0)), ("fact", 1)), book)
        self.wrong(("atom", self.r01, ("atom", p, ("set", (0,)), ("fact", 0)), ("fact", 1)), book)

    def test_an_atom_told_twice(self):
        tree = ("atom", self.r01, self.tree()[2], ("atom", self.r01, ("fact", 0), ("fact", 0)))
        self.wrong(tree)
        other = ("atom", self.r01, self.tree()[2], ("atom", (0, (1, 1)), ("fact", 0), ("fact", 0)))
        self.right(other)
        # wrong also where each leaf is right
        clash = (ARROWS, (NO_TURN,), (0, 0), (FALSE,))
        inner = ("atom", self.r10, ("fact", 0), ("fact", 0))
        self.right(("atom", self.r01, inner, ("fact", 0)), clash)
        self.right(("atom", self.r01, inner, inner), clash)
        self.wrong(("atom", self.r10, inner, ("fact", 0)), clash)
        self.wrong(("atom", self.r10, ("fact", 0), inner), clash)
        self.wrong(("atom", self.r10, ("fact", 0), ("atom", self.r01, ("fact", 0), inner)), clash)

    def test_atoms_that_are_none(self):
        for value in ((1, (0,)), (0, (0,)), (0, (0, 2)), (2, (0,)), (-1, (0, 1)), (False, (0, 1)), (0, (False, 1)),
                      (0, 1), 0, None, "r", (0, (0, 1), 0), (0, (None, 1)), (0, ((0,), 1)), (10 ** 59, (0, 1))):
            self.wrong(("atom", value, ("fact", 0), ("fact", 0)), (ARROWS, (NO_TURN,), (0, 0), (FALSE,)))
        self.right(("atom", (0, (1, 1)), ("fact", 0), ("fact", 0)), (ARROWS, (NO_TURN,), (0, 0), (FALSE,)))
        # with p in a fact it may be told
        self.right(("atom", (1, (0,)), ("fact", 0), ("fact", 0)), (ARROWS, (NO_TURN,), (0, 0), (FALSE, either(TRUE, atom(1, 0)))))

    def test_sorts_of_names(self):
        book = (TWO, (("all", atom(1, 0, 1), atom(2, 0)),), (1, 0), (atom(1, 0, 1), neg(atom(2, 0))))
        self.right(("atom", (1, (0, 1)), ("atom", (2, (0,)), ("fact", 1), ("set", (0, 1))), ("fact", 0)), book)
        self.wrong(("atom", (1, (1, 0)), ("fact", 0), ("fact", 0)), book)

    def test_no_bound_of_atoms(self):
        book = ((1, (("r", (0, 0)),)), (("all", atom(0, 0, 0), FALSE),), (0,) * 12, (atom(0, 3, 3),))
        self.assertEqual(len(name_atoms(book)), 144)
        self.right(("atom", (0, (3, 3)), ("set", (3,)), ("fact", 0)), book)
        self.wrong(("atom", (0, (3, 3)), ("set", (4,)), ("fact", 0)), book)

    def test_spoilt(self):
        kinds = greatest_table(*self.book[:2])
        right = 0
        for path, value in spoilt(self.tree()):
            told = check_shut(self.book, value)
            self.assertIs(told, False, path)
        for path in ((1,), (2, 1)):
            for atom_there in slow_name_atoms(self.book):
                value = replaced(self.tree(), path, atom_there)
                told = slow_shut(self.book, kinds, {}, value)
                self.assertIs(check_shut(self.book, value), told)
                right += told
        self.assertGreater(right, 0)

    def test_junk(self):
        for value in JUNK + ((), ("fact",), ("set",), ("atom",), ("fact", 0, 0), ("set", (0,), 0), deep(29)):
            self.wrong(value)
        # as deep as a value may be, and as large
        book = unary_book(12, (FALSE,))
        value = ("fact", 0)
        for number in range(27):
            value = ("atom", (number % 8, (number // 8,)), ("fact", 0), value)
        self.right(value, book)
        self.wrong(replaced(value, (3,) * 27, ("fact", 1)), book)
        large = ("fact", 0)
        for number in range(11):
            large = ("atom", (number % 8, (number // 8,)), large, large)
        self.right(large, book)
        self.wrong(("atom", (7, (11,)), large, replaced(large, (2,) * 11, ("set", (0,)))), book)

    def test_other_classes(self):
        class Row(tuple):
            pass
        self.wrong(Row(self.tree()))
        self.wrong(replaced(self.tree(), (3,), Row(("fact", 0))))
        self.wrong(replaced(self.tree(), (1,), Row(self.r01)))

    def test_made(self):
        """Trees with made leaves are taken exactly where the slow reading takes them."""
        seen = [0, 0]
        for seed in range(400):
            book = made_book((SMALL, TWO)[seed % 2], seed, 3, 2, 3)
            kinds = slow_strikes(book[0], book[1])[1]
            chance = random.Random(seed)
            tree = made_tree(book, chance, list(slow_name_atoms(book)), kinds, {})
            told = slow_shut(book, kinds, {}, tree)
            self.assertIs(check_shut(book, tree), told)
            seen[told] += 1
        self.assertGreater(min(seen), 40)


def made_tree(book, chance, left, kinds, told):
    """A tree with leaves that are right where there are such ones, but for some by chance."""
    leaves = [("fact", number) for number in range(len(book[3]))]
    leaves.extend(("set", names) for names in slow_sets(book, list(told)))
    right = [leaf for leaf in leaves if slow_shut(book, kinds, told, leaf)]
    if right or not left:
        return chance.choice(right if right and chance.random() < 0.97 else leaves or [("fact", 0)])
    pair = chance.choice(left)
    rest = [other for other in left if other != pair]
    return ("atom", pair) + tuple(made_tree(book, chance, rest, kinds, {**told, pair: side}) for side in (True, False))


if __name__ == "__main__":
    unittest.main()
