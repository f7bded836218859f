"""[1], [2], [3] over the whole program: errors, and what the parts of the program say of one another's results."""

import ast
import copy
import unittest

from bagkinds import errors
from bagkinds.books import book_of, check_book, keeps_book
from bagkinds.clashes import fact_mends, follows_in_all, grounds, least_clashes
from bagkinds.deciding import check_decision, decide, has_store
from bagkinds.finite import finite_store
from bagkinds.forms import guarded_sets, keeps, sentence_of
from bagkinds.growing import grow
from bagkinds.joining import beside, part_of, renamed, times
from bagkinds.keeping import Keeper
from bagkinds.leasts import least_store, map_into
from bagkinds.lines import bar, check_bar, check_derived, derive
from bagkinds.lists import are_lists, least_hitting
from bagkinds.plain import closed_facts, closure, once_clash
from bagkinds.questions import deny, follows
from bagkinds.stores import check_store, holds, thing_sorts
from bagkinds.texts import read_book, read_formula, write_book, write_formula
from tests.helpers import ARROWS, TRUE, atom, bend, neg, slow_row_atoms, sort
from tests.slow import SMALL, TWO, made_book
from tests.slow_plain import CLASH, plain_book
from tests.test_plain import P, R, once, rule, some
from tests.test_questions import made_question
from tests.test_style import sources
from tests.test_tables import ELEVEN


class ErrorsTest(unittest.TestCase):
    def test_all_are_direct_subclasses(self):
        self.assertEqual(errors.BagError.__bases__, (ValueError,))
        for name in ("BadFormula", "BadForm", "BadStore", "TooMany", "BadText", "UnknownNumber"):
            self.assertEqual(getattr(errors, name).__bases__, (errors.BagError,))
            getattr(errors, name)()
        for name, mark in (("BadLanguage", "at"), ("BadBook", "part"), ("NotPlain", "number"), ("BadLine", "line")):
            self.assertEqual(getattr(errors, name).__bases__, (errors.BagError,))
            self.assertEqual(getattr(getattr(errors, name)(7), mark), 7)

    def test_no_other_errors_are_raised(self):
        own = set(vars(errors))
        for name, text in sources():
            for node in ast.walk(ast.parse(text)):
                if isinstance(node, ast.Raise):
                    self.assertIn(node.exc.func.id, own, (name, node.lineno))


class PlainAgainstTablesTest(unittest.TestCase):
    """What closing tells is what the closed table tells."""

    def test_stores_and_atoms(self):
        seen = {True: 0, False: 0}
        for seed in range(160):
            book = plain_book(seed, 3 + seed % 6, 2, 3)
            facts = closed_facts(book)
            self.assertEqual(has_store(book), facts != CLASH)
            for number, names in slow_row_atoms(book[0], book[2])[:8]:
                told = follows(book, atom(number, *names))[0]
                self.assertEqual(told, facts == CLASH or (number, names) in facts)
                seen[told] += 1
            if facts != CLASH:
                found = finite_store(book)
                if found is not None:
                    self.assertTrue(keeps_book(book, *found))
        self.assertGreater(min(list(seen.values())), 80)

    def test_products_of_stores_that_keep_a_plain_book(self):
        kept = 0
        for seed in range(60):
            book = plain_book(seed, 5, 2, 2)
            found = None if closed_facts(book) == CLASH else finite_store(book)
            if found is None or sum(found[0][0]) > 12:
                continue
            store, places = found
            product, pairs = times(store, store)
            both_places = tuple(pairs.index((place, place)) for place in places)
            self.assertTrue(keeps_book(book, product, both_places))
            twice, left, right = beside(store, store)
            self.assertTrue(keeps_book(book, twice, tuple(left[place] for place in places)))
            self.assertTrue(keeps_book(book, twice, tuple(right[place] for place in places)))
            order = tuple(sorted(range(sum(store[0])), key=lambda thing: (thing_sorts(store)[thing], -thing)))
            self.assertTrue(keeps_book(book, renamed(store, order), tuple(order.index(place) for place in places)))
            self.assertEqual(part_of(store, tuple(range(sum(store[0])))), store)
            kept += 1
        self.assertGreater(kept, 30)


class ResultsAreTakenTest(unittest.TestCase):
    def test_larger_stores(self):
        """A store with more than 20000 atoms is made by least_store and taken by the rest."""
        language = (1, (("t", (0, 0, 0, 0)), ("u", (0, 0, 0, 0)), ("v", (0, 0, 0, 0))))
        full = tuple(rule(atom(0, 0, 1, 2, 3), (), atom(number, *row)) for number, row in (
            (0, (1, 0, 2, 3)), (0, (1, 2, 3, 0)), (0, (0, 0, 1, 2)), (0, (0, 1, 0, 2)), (1, (0, 1, 2, 3)), (2, (0, 1, 2, 3)),
            (0, (0, 0, 0, 0))))
        book = (language, full + (once(atom(0, 0, 1, 2, 3)),) * 60, (), ())
        store, places, bags = least_store(book, 0)
        self.assertGreater(len(store[1]), 20000)
        with self.assertRaises(errors.BadStore):
            check_store(language, store)
        self.assertEqual(len(bags), 61)
        self.assertTrue(keeps(store, full[0]))
        self.assertEqual(len(guarded_sets(store)), 60 * 15)
        self.assertEqual(renamed(store, tuple(range(240))), store)
        self.assertEqual(len(part_of(store, bags[1])[1]), len(store[1]) // 60)
        self.assertEqual(map_into(part_of(store, bags[1]), (), store, ())[:2], (0, 0))
        with self.assertRaises(errors.TooMany):
            beside(store, ((1,), ()))
        with self.assertRaises(errors.TooMany):
            times(store, store)

    def test_formulas_beyond_the_bounds(self):
        form = ("some", sort(0, 0), bend(12, atom(P, 0)), atom(R, 0, 1), bend(12, atom(P, 1)))
        sentence = sentence_of(form)
        with self.assertRaises(errors.BagError):
            read_formula(ARROWS, write_formula(ARROWS, sentence))
        store = ((2,), ((R, (0, 1)), (P, (0,))))
        self.assertEqual(holds(store, sentence, ()), keeps(store, form))
        question = ("some", (5,), sort(0, 5), bend(8, atom(P, 5)))
        for denied in deny((ARROWS, (form,), (), ()), question):
            check_book(denied)
            self.assertEqual(read_book(write_book(denied)), denied)
            self.assertIs(check_decision(denied, decide(denied)), True)

    def test_books_of_sentences(self):
        sentence = ("all", (0,), atom(P, 0), ("some", (1,), atom(R, 0, 1), atom(P, 1)))
        for book in book_of(ARROWS, (sentence, ("some", (0,), sort(0, 0), atom(P, 0))), (0, 0), (atom(P, 0), neg(atom(P, 1)))):
            self.assertEqual(read_book(write_book(book)), book)
            keeper = Keeper(book)
            self.assertEqual(keeper.has_store, decide(book)[0] == "store")
            self.assertIs(are_lists(2, *grounds(book, atom(P, 0))), True)
            self.assertIs(are_lists(len(book[1]), *least_clashes(book, tuple((k,) for k in range(len(book[1]))))), True)
            for lot in fact_mends(book):
                told = decide(book[:3] + (tuple(book[3][number] for number in lot),))
                self.assertEqual(told[0], "store")
                grown, _, _ = grow(book, told, 2) if len(lot) == 2 else (None, None, None)
                if grown is not None:
                    self.assertTrue(all(keeps(grown, form) for form in book[1] if form[0] != "some"))

    def test_lists(self):
        for seed in range(40):
            book = made_book((SMALL, TWO)[seed % 2], seed, 3, 2, 4)
            question = made_question(book, seed, 2)
            least, greatest = grounds(book, question)
            size = len(book[3])
            hitting = least_hitting(least)
            self.assertEqual(sorted(tuple(sorted(set(range(size)) - set(lot))) for lot in hitting), list(greatest))


class NothingIsChangedTest(unittest.TestCase):
    def test_arguments_and_results(self):
        for seed in range(40):
            book = plain_book(seed, 8, 3, 4)
            goal = (slow_row_atoms(book[0], book[2]) + (CLASH,))[0]
            told = copy.deepcopy(book)
            calls = (
                lambda: closure(book[0], book[1], (0,), ()), lambda: once_clash(book[0], book[1]), lambda: closed_facts(book),
                lambda: derive(book, goal), lambda: bar(book, goal), lambda: check_derived(book, goal, derive(book, goal)),
                lambda: check_bar(book, goal, bar(book, goal)), lambda: fact_mends(book), lambda: write_book(book),
                lambda: follows_in_all(book, TRUE), lambda: grounds(book, TRUE),
            )
            self.assertEqual([call() for call in calls], [call() for call in reversed(calls)][::-1])
            self.assertEqual(book, told)

    def test_reading_changes_nothing(self):
        keeper = Keeper((ARROWS, (some(atom(P, 0), (), atom(R, 0, 1)),), (0,), ()))
        keeper.add_form(once(atom(P, 0)))
        told = [(keeper.book, keeper.table, keeper.has_store, keeper.kept, len(keeper), keeper.follows(TRUE)) for _ in range(3)]
        self.assertEqual(told[0], told[1])
        self.assertEqual(told[0], told[2])


class SizesTest(unittest.TestCase):
    def test_plain_rules_have_no_bound_of_kinds(self):
        book = (ELEVEN, (once(atom(3, 0)),), (0,), (atom(0, 0),))
        self.assertEqual(closed_facts(book), ((0, (0,)),))
        self.assertIs(check_derived(book, (0, (0,)), derive(book, (0, (0,)))), True)
        self.assertIs(check_bar(book, CLASH, bar(book, CLASH)), True)
        self.assertEqual(least_store(book, 6)[0][0], (2,))
        for call in (has_store, fact_mends, lambda told: grounds(told, TRUE), lambda told: follows_in_all(told, TRUE),
                     lambda told: least_clashes(told, ()), lambda told: Keeper(told).table, lambda told: Keeper(told).kept,
                     lambda told: Keeper(told).has_store, lambda told: Keeper(told).follows(TRUE)):
            with self.assertRaises(errors.TooMany):
                call(book)
        self.assertEqual(Keeper(book).book, book)
        self.assertEqual(read_book(write_book(book)), book)


if __name__ == "__main__":
    unittest.main()
