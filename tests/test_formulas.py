"""[5]: formulas, their bounds, terms and sorts."""

import random
import unittest

from bagkinds.errors import BadFormula
from bagkinds.formulas import all_terms, check_formula, free_terms, is_condition, renamed_terms, term_sorts
from tests.helpers import (
    FALSE, JUNK, MIXED, TRUE, Maker, atom, bend, both, broad, deep, either, guard_variables, item_at, neg, parts_within,
    places_in, replaced, slow_free, slow_is_formula, sort, spoilt,
)

NEXT = ("some", (1,), atom(0, 0, 1), both(atom(1, 1), ("equal", 0, 1)))


def slow_levels(formula):
    return 1 + max([slow_levels(part) for part in parts_within(formula)], default=0)


def slow_count(formula):
    return 1 + sum(slow_count(part) for part in parts_within(formula))


class CheckTest(unittest.TestCase):
    def right(self, value, free=(), language=MIXED):
        self.assertIsNone(check_formula(language, value, free))

    def wrong(self, value, free=(), language=MIXED):
        with self.assertRaises(BadFormula):
            check_formula(language, value, free)


class ShapeTest(CheckTest):
    def test_each_form(self):
        self.right(atom(0, 0, 99), ((0, 0), (99, 0)))
        self.right(("equal", 0, 0), ((0, 2),))
        self.right(neg(atom(3, 5)), ((5, 1),))
        self.right(TRUE)
        self.right(FALSE)
        self.right(("some", (0,), sort(2, 0), TRUE))
        self.right(("all", (0, 1), atom(0, 0, 1), neg(atom(0, 1, 0))))
        self.right(NEXT, ((0, 0),))
        self.assertIsNone(check_formula(language=MIXED, value=NEXT, free=((0, 0),)))

    def test_no_formulas(self):
        for value in JUNK + (deep(30), (), 0, sort(0, 0), ("sort",), ("switch", 0), ("and", (), ()), ("or", TRUE),
                             ("and", "ab"), ("and", ""), ("and", None), ("not",), ("not", TRUE, TRUE), ("equal", 0),
                             ("AND", ()), (("and",), ())):
            self.wrong(value, ((0, 0),))

    def test_atoms(self):
        free = ((0, 0), (1, 1))
        self.right(atom(2, 0, 1), free)
        self.wrong(atom(-1, 2, 1, 0, 2), free + ((2, 2),))
        self.wrong(atom(-6, 0, 0), free)
        for value in (atom(2, 0), atom(2, 0, 1, 0), atom(2), ("atom", 2, 0), ("atom", 2), ("atom", 2, (0, 1), 0),
                      atom(-1, 0, 1), atom(6, 0, 1), atom(False, 0, 0), atom(True, 0), atom(None, 0), atom("r", 0, 0),
                      atom(0, 0, False), atom(0, 0, None), atom(0, 0, -1), atom(0, 0, 100), atom(0, 0, 10 ** 59)):
            self.wrong(value, free + ((100, 0),))

    def test_language_without_relations(self):
        bare = (1, ())
        self.right(("all", (0,), sort(0, 0), ("equal", 0, 0)), (), bare)
        self.right(TRUE, (), bare)
        self.wrong(atom(0, 0), ((0, 0),), bare)
        self.wrong(("all", (0,), sort(1, 0), TRUE), (), bare)

    def test_terms(self):
        for term in (True, False, None, -1, 100, "0", (0,)):
            self.wrong(("equal", term, 1), ((0, 0), (1, 0), (2, 0)))
            self.wrong(("equal", 1, term), ((0, 0), (1, 0), (2, 0)))
            self.wrong(("some", (term,), sort(0, term), TRUE))

    def test_levels(self):
        self.right(bend(12, TRUE))
        self.wrong(bend(13, TRUE))
        self.right(bend(12, atom(1, 0)), ((0, 0),))
        self.wrong(bend(13, atom(1, 0)), ((0, 0),))
        self.right(bend(11, ("some", (0,), sort(0, 0), TRUE)))
        self.wrong(bend(12, ("some", (0,), sort(0, 0), TRUE)))
        self.right(bend(10, ("some", (0,), sort(0, 0), neg(TRUE))))
        self.wrong(bend(11, ("some", (0,), sort(0, 0), neg(TRUE))))
        self.wrong(bend(30, TRUE))

    def test_parts(self):
        self.right(broad(200, TRUE))
        self.wrong(broad(201, TRUE))
        self.wrong(broad(9000, TRUE))
        self.right(both(broad(99, TRUE), broad(100, atom(1, 0))), ((0, 0),))
        self.wrong(both(broad(100, TRUE), broad(100, atom(1, 0))), ((0, 0),))

    def test_a_guard_is_a_part(self):
        self.right(("some", (0,), sort(0, 0), broad(198, TRUE)))
        self.wrong(("some", (0,), sort(0, 0), broad(199, TRUE)))
        self.right(("all", (0, 1), atom(0, 0, 1), broad(198, atom(0, 1, 0))))
        self.wrong(("all", (0, 1), atom(0, 0, 1), broad(199, atom(0, 1, 0))))


class BindingTest(CheckTest):
    def test_variables(self):
        guard = atom(0, 0, 1)
        for variables in ((0,), (1,), (0, 1)):
            free = tuple((term, 0) for term in (0, 1) if term not in variables)
            self.right(("some", variables, guard, TRUE), free)
        for variables in ((), (1, 0), (0, 0), (2,), (0, 2), (0, 1, 2), (False,), (0, True), (None,), None, 0, "0", (-1,)):
            self.wrong(("some", variables, guard, TRUE), ((0, 0), (1, 0), (2, 0)))
            self.wrong(("all", variables, guard, TRUE), ((0, 0), (1, 0), (2, 0)))

    def test_guards(self):
        for guard in (("equal", 0, 0), neg(atom(1, 0)), TRUE, both(atom(1, 0)), None, (), sort(3, 0), sort(-1, 0),
                      sort(True, 0), sort(0, 1), ("sort", 0), ("sort", 0, 0, 0), ("sort", 0, (0,)), sort(None, 0),
                      sort(0, 10 ** 59), atom(0, 0), ("some", (0,), sort(0, 0), TRUE)):
            self.wrong(("some", (0,), guard, TRUE), ((1, 0),))

    def test_free_terms_behind_are_in_the_guard(self):
        self.right(("some", (0,), atom(0, 0, 1), atom(1, 1)), ((1, 0),))
        self.wrong(("some", (0,), atom(1, 0), atom(1, 1)), ((1, 0),))
        self.wrong(("some", (0,), sort(0, 0), atom(0, 0, 1)), ((1, 0),))
        deeper = ("some", (2,), atom(0, 1, 2), TRUE)
        self.right(("some", (1,), atom(0, 0, 1), deeper), ((0, 0),))
        self.wrong(("some", (0,), atom(1, 0), deeper), ((1, 0),))

    def test_bound_twice(self):
        once = ("some", (0,), sort(0, 0), TRUE)
        other = ("some", (1,), sort(0, 1), TRUE)
        self.right(both(once, other))
        self.wrong(both(once, once))
        self.wrong(both(once, neg(("all", (0,), atom(1, 0), TRUE))))
        self.wrong(("some", (0,), sort(0, 0), ("some", (0,), sort(0, 0), TRUE)))
        self.wrong(("some", (0,), atom(1, 0), ("some", (0, 1), atom(0, 0, 1), TRUE)))

    def test_bound_and_free(self):
        once = ("some", (0,), sort(0, 0), TRUE)
        self.wrong(both(once, atom(1, 0)), ((0, 0),))
        self.wrong(both(atom(1, 0), once), ((0, 0),))
        self.wrong(("some", (1,), atom(0, 0, 1), once), ((0, 0),))

    def test_free_names_the_free_terms(self):
        self.right(atom(0, 0, 1), ((0, 0), (1, 0), (5, 2)))
        self.wrong(atom(0, 0, 1), ((0, 0),))
        self.wrong(atom(0, 0, 1), ())
        self.wrong(("equal", 0, 1), ((0, 0),))
        self.wrong(("equal", 0, 1), ((1, 0),))

    def test_free_tells_nothing_of_bound_terms(self):
        self.right(("some", (0,), sort(1, 0), atom(3, 0)), ((0, 2),))
        self.right(NEXT, ((0, 0), (1, 1)))


class SortsTest(CheckTest):
    def test_settled_by_free_alone(self):
        self.right(("equal", 3, 4), ((3, 1), (4, 1)))
        self.wrong(("equal", 3, 4), ((3, 1), (4, 0)))
        self.right(both(("equal", 3, 4), ("equal", 4, 5)), ((3, 1), (4, 1), (5, 1)))
        self.wrong(both(("equal", 3, 4), ("equal", 4, 5)), ((3, 1), (4, 1), (5, 2)))
        self.wrong(both(("equal", 3, 4), ("equal", 4, 5)), ((3, 1), (5, 1)))

    def test_settled_twice(self):
        self.wrong(atom(0, 0, 1), ((0, 0), (1, 1)))
        self.wrong(both(atom(1, 0), atom(3, 0)), ((0, 0),))
        self.wrong(atom(2, 0, 0), ((0, 0),))
        self.wrong(("some", (0,), sort(1, 0), atom(1, 0)))
        self.wrong(("some", (0, 1), atom(2, 0, 1), ("equal", 0, 1)))
        self.wrong(("some", (0,), atom(2, 0, 0), TRUE))
        self.wrong(("some", (0,), sort(0, 0), ("some", (1,), atom(2, 1, 0), TRUE)))
        self.right(("some", (0, 1), atom(4, 0, 0, 1), ("equal", 0, 0)))

    def test_term_sorts(self):
        self.assertEqual(term_sorts(MIXED, TRUE, ((4, 1),)), ())
        self.assertEqual(term_sorts(MIXED, NEXT, ((0, 0),)), ((0, 0), (1, 0)))
        self.assertEqual(term_sorts(language=MIXED, formula=atom(5, 9, 3, 1, 4), free=()), ((1, 0), (3, 1), (4, 2), (9, 2)))
        chain = both(("equal", 7, 8), ("equal", 8, 9), atom(3, 9), ("equal", 2, 2))
        told = ((2, 2), (7, 1), (8, 1), (9, 1))
        self.assertEqual(term_sorts(MIXED, chain, told + ((50, 0),)), told)
        self.assertEqual(term_sorts(MIXED, ("some", (0,), sort(1, 0), ("equal", 0, 0)), ((0, 2),)), ((0, 1),))
        self.assertEqual(term_sorts(MIXED, ("equal", 0, 99), ((0, 1), (99, 1))), ((0, 1), (99, 1)))
        with self.assertRaises(BadFormula):
            term_sorts(MIXED, both(atom(1, 0), ("equal", 1, 2)), ((0, 0),))


class MadeTest(CheckTest):
    def made(self):
        for seed in range(150):
            maker = Maker(MIXED, seed)
            scope = {maker.fresh(): 0, maker.fresh(): 1, maker.fresh(): 2}
            formula = maker.formula(scope, 4)
            if slow_count(formula) <= 200 and maker.next_term <= 100:
                yield formula, tuple(sorted(scope.items()))

    def test_made_formulas_are_right(self):
        for formula, free in self.made():
            self.right(formula, free)
            self.assertLessEqual(slow_levels(formula), 12)
            self.assertEqual(free_terms(formula), tuple(sorted(slow_free(formula))))

    def agree(self, value, free):
        if slow_is_formula(MIXED, value, free):
            self.right(value, free)
        else:
            self.wrong(value, free)

    def test_spoilt_formulas(self):
        formula = ("all", (0, 2), atom(2, 0, 2), either(neg(NEXT), ("some", (3,), sort(0, 3), FALSE), ("equal", 2, 2)))
        self.right(formula)
        for _, value in spoilt(formula):
            self.agree(value, ())

    def test_formulas_with_parts_exchanged(self):
        chance = random.Random(5)
        told = []
        for formula, free in self.made():
            paths = list(places_in(formula))
            for _ in range(30):
                value = replaced(formula, chance.choice(paths), item_at(formula, chance.choice(paths)))
                self.agree(value, free)
                told.append(slow_is_formula(MIXED, value, free))
        self.assertGreater(told.count(True), 300)
        self.assertGreater(told.count(False), 300)

    def test_true_and_false_are_no_numbers(self):
        for number, value in ((0, False), (1, True)):
            self.right(atom(1, number), ((number, 0),))
            self.wrong(atom(1, value), ((number, 0),))
            self.wrong(("atom", value, (0, 0)), ((0, 0),))
            self.wrong(("some", (5,), ("sort", value, 5), TRUE))


class TermsTest(unittest.TestCase):
    def test_free_terms(self):
        self.assertEqual(free_terms(NEXT), (0,))
        self.assertEqual(free_terms(formula=both(atom(0, 9, 3), ("equal", 3, 1))), (1, 3, 9))
        self.assertEqual(free_terms(TRUE), ())
        self.assertEqual(free_terms(("all", (0, 1), atom(0, 0, 1), NEXT[3])), ())

    def test_all_terms(self):
        self.assertEqual(all_terms(NEXT), (0, 1))
        self.assertEqual(all_terms(formula=("some", (4,), sort(0, 4), ("equal", 4, 4))), (4,))
        self.assertEqual(all_terms(neg(atom(5, 9, 0, 9, 99))), (0, 9, 99))
        self.assertEqual(all_terms(FALSE), ())

    def test_is_condition(self):
        self.assertIs(is_condition(TRUE), True)
        self.assertIs(is_condition(formula=neg(both(("equal", 0, 1), atom(1, 0)))), True)
        self.assertIs(is_condition(NEXT), False)
        self.assertIs(is_condition(either(TRUE, neg(("all", (0,), sort(0, 0), TRUE)))), False)


class RenamedTest(unittest.TestCase):
    def test_all_at_once(self):
        self.assertEqual(renamed_terms(atom(0, 0, 1), ((0, 1), (1, 0))), atom(0, 1, 0))
        self.assertEqual(renamed_terms(formula=("equal", 3, 4), pairs=((4, 9), (7, 8))), ("equal", 3, 9))
        self.assertEqual(renamed_terms(TRUE, ((0, 1),)), TRUE)
        self.assertEqual(renamed_terms(NEXT, ()), NEXT)

    def test_bound_terms(self):
        formula = ("all", (0, 1), atom(0, 0, 1), ("some", (2,), sort(0, 2), neg(atom(1, 2))))
        moved = ("all", (1, 7), atom(0, 7, 1), ("some", (0,), sort(0, 0), neg(atom(1, 0))))
        self.assertEqual(renamed_terms(formula, ((0, 7), (2, 0))), moved)
        self.assertEqual(renamed_terms(moved, ((7, 0), (0, 2))), formula)

    def test_guards(self):
        self.assertEqual(renamed_terms(sort(2, 5), ((5, 6),)), sort(2, 6))
        self.assertEqual(renamed_terms(sort(2, 5), ((2, 6),)), sort(2, 5))

    def test_made(self):
        for seed in range(40):
            formula = Maker(MIXED, seed).sentence(4)
            terms = all_terms(formula)
            moved = renamed_terms(formula, tuple((term, 99 - term) for term in terms))
            self.assertEqual(all_terms(moved), tuple(sorted(99 - term for term in terms)))
            self.assertIsNone(check_formula(MIXED, moved, ()))
            self.assertEqual(renamed_terms(moved, tuple((99 - term, term) for term in terms)), formula)


class PlainTupleTest(unittest.TestCase):
    def test_results_are_plain(self):
        for result in (free_terms(NEXT), all_terms(NEXT), term_sorts(MIXED, NEXT, ((0, 0),)), guard_variables(NEXT[2])):
            self.assertIs(type(result), tuple)
        self.assertTrue(all(type(pair) is tuple for pair in term_sorts(MIXED, NEXT, ((0, 0),))))


if __name__ == "__main__":
    unittest.main()
