"""[7] and [9]: forms, what they say, and where stores break them."""

import itertools
import random
import unittest

from bagkinds.errors import BadForm
from bagkinds.forms import breaks, check_form, guarded_sets, keeps, new, sentence_of, shared
from bagkinds.formulas import term_sorts
from bagkinds.stores import holds
from tests.helpers import (
    FALSE, JUNK, MIXED, TRUE, Maker, atom, bend, both, broad, deep, either, guard_variables, item_at, neg,
    places_in, replaced, slow_free, slow_guard, slow_holds, slow_is_formula, sort, spoilt, store_sorts,
)

ALL = ("all", atom(4, 2, 0, 5), either(neg(atom(0, 0, 2)), ("equal", 0, 2), atom(3, 5)))
SOME = ("some", atom(2, 3, 1), atom(1, 3), atom(0, 0, 3), both(atom(1, 0), neg(("equal", 0, 3))))
ONCE = ("once", atom(0, 7, 7), atom(1, 7))
FORMS = (ALL, SOME, ONCE)


def slow_is_form(language, value):
    """Whether check_form takes a value, as [7] says it."""
    sizes = {"all": 3, "some": 5, "once": 3}
    if type(value) is not tuple or not value or type(value[0]) is not str or sizes.get(value[0]) != len(value):
        return False
    told = {}
    for guard, condition in zip(value[1::2], value[2::2]):
        if slow_guard(language, guard, 1) is None:
            return False
        pairs = [(guard[2], guard[1])] if guard[0] == "sort" else list(zip(guard[2], language[1][guard[1]][1]))
        for term, number in pairs:
            if told.setdefault(term, number) != number:
                return False
        if not slow_is_formula(language, condition, tuple(sorted(set(pairs)))) or has_quantifier(condition):
            return False
    return value[0] != "some" or not slow_free(value[3]) <= slow_free(value[1])


def has_quantifier(formula):
    return any(item_at(formula, path) in ("some", "all") for path in places_in(formula))


class CheckFormTest(unittest.TestCase):
    def right(self, value, language=MIXED):
        self.assertIsNone(check_form(language, value))
        self.assertTrue(slow_is_form(language, value))

    def wrong(self, value, language=MIXED):
        with self.assertRaises(BadForm):
            check_form(language, value)

    def agree(self, value):
        if slow_is_form(MIXED, value):
            self.right(value)
        else:
            self.wrong(value)

    def test_right(self):
        for form in FORMS:
            self.right(form)
        self.assertIsNone(check_form(language=MIXED, value=SOME))
        self.right(("all", sort(2, 0), TRUE))
        self.right(("some", sort(2, 0), TRUE, sort(2, 1), FALSE))
        self.right(("once", sort(1, 99), FALSE))
        self.right(("all", atom(5, 1, 2, 3, 1), FALSE))
        self.right(("some", atom(0, 4, 4), TRUE, atom(4, 4, 4, 6), TRUE))
        self.right(("all", sort(0, 3), ("equal", 3, 3)), (1, ()))

    def test_heads_have_a_new_term(self):
        self.right(("some", atom(0, 0, 1), TRUE, atom(0, 1, 2), TRUE))
        self.right(("some", atom(0, 0, 1), TRUE, atom(0, 3, 2), TRUE))
        for head in (atom(0, 1, 0), atom(0, 1, 1), sort(0, 0), atom(1, 1)):
            self.wrong(("some", atom(0, 0, 1), TRUE, head, TRUE))
        self.right(("some", atom(0, 0, 1), TRUE, sort(0, 2), TRUE))

    def test_conditions(self):
        self.wrong(("all", atom(1, 0), atom(1, 1)))
        self.wrong(("all", sort(0, 0), ("equal", 0, 1)))
        self.wrong(("all", atom(1, 0), ("some", (1,), atom(0, 0, 1), TRUE)))
        self.wrong(("once", atom(1, 0), neg(("all", (1,), sort(0, 1), TRUE))))
        self.wrong(("some", atom(1, 0), atom(1, 1), atom(0, 0, 1), TRUE))
        self.wrong(("some", atom(0, 2, 0), TRUE, atom(0, 0, 1), atom(1, 2)))
        self.wrong(("some", atom(1, 0), sort(0, 0), atom(0, 0, 1), TRUE))
        self.wrong(("all", atom(1, 0), sort(0, 0)))

    def test_guards(self):
        for guard in (("equal", 0, 0), TRUE, neg(atom(1, 0)), None, (), sort(3, 0), sort(0, 100), atom(6, 0), atom(0, 0),
                      ("sort", False, 0), ("sort", 0, True), ("some", (0,), sort(0, 0), TRUE), sort(-1, 0)):
            self.wrong(("all", guard, TRUE))
            self.wrong(("once", guard, TRUE))
            self.wrong(("some", guard, TRUE, sort(0, 9), TRUE))
            self.wrong(("some", sort(0, 9), TRUE, guard, TRUE))

    def test_sorts(self):
        self.wrong(("all", atom(2, 0, 0), TRUE))
        self.wrong(("all", atom(2, 0, 1), ("equal", 0, 1)))
        self.wrong(("all", atom(2, 0, 1), atom(1, 1)))
        self.wrong(("some", sort(1, 0), TRUE, atom(0, 0, 1), TRUE))
        self.right(("some", sort(0, 0), TRUE, atom(0, 0, 1), TRUE))
        self.wrong(("some", atom(2, 0, 1), TRUE, atom(0, 1, 2), TRUE))
        self.wrong(("some", atom(2, 0, 1), TRUE, atom(2, 0, 2), atom(1, 2)))
        self.wrong(("once", atom(5, 0, 1, 2, 1), TRUE))

    def test_levels_and_parts(self):
        for end in (TRUE, atom(1, 0)):
            for side, condition in ((12, bend), (200, broad)):
                self.right(("all", atom(1, 0), condition(side, end)))
                self.right(("once", sort(0, 0), condition(side, end)))
                self.right(("some", sort(0, 0), condition(side, end), atom(0, 0, 1), condition(side, end)))
                self.wrong(("all", atom(1, 0), condition(side + 1, end)))
                self.wrong(("once", atom(1, 0), condition(side + 1, end)))
                self.wrong(("some", sort(0, 0), condition(side + 1, end), atom(0, 0, 1), TRUE))
                self.wrong(("some", sort(0, 0), TRUE, atom(0, 0, 1), condition(side + 1, end)))

    def test_other_forms(self):
        for value in JUNK + (deep(30), (), ("all",), ("all", atom(1, 0)), ALL + (TRUE,), SOME[:4], SOME + (TRUE,),
                             ONCE[:2], ("some",) + ALL[1:], ("all",) + SOME[1:], ("any",) + ALL[1:], ALL[1:],
                             (True,) + ALL[1:], (("all",),) + ALL[1:], "all", ("ALL",) + ALL[1:]):
            self.wrong(value)

    def test_spoilt(self):
        for form in FORMS:
            for _, value in spoilt(form):
                self.agree(value)

    def test_parts_exchanged(self):
        chance, told = random.Random(3), []
        for seed in range(200):
            form = Maker(MIXED, seed).form()
            self.right(form)
            paths = list(places_in(form))
            for _ in range(20):
                value = replaced(form, chance.choice(paths), item_at(form, chance.choice(paths)))
                self.agree(value)
                told.append(slow_is_form(MIXED, value))
        self.assertGreater(told.count(True), 200)
        self.assertGreater(told.count(False), 200)

    def test_true_and_false_are_no_numbers(self):
        for form in FORMS + (("all", sort(1, 0), ("equal", 0, 0)), ("once", sort(0, 1), atom(1, 1))):
            for path in places_in(form):
                if item_at(form, path) in (0, 1):
                    self.wrong(replaced(form, path, item_at(form, path) == 1))


class VariablesTest(unittest.TestCase):
    def test_shared_and_new(self):
        self.assertEqual((shared(ALL), new(ALL)), ((), ()))
        self.assertEqual((shared(SOME), new(SOME)), ((3,), (0,)))
        self.assertEqual((shared(ONCE), new(ONCE)), ((), (7,)))
        self.assertEqual(shared(form=SOME), (3,))
        self.assertEqual(new(form=("once", atom(5, 9, 4, 0, 2), TRUE)), (0, 2, 4, 9))
        apart = ("some", atom(0, 5, 1), TRUE, atom(0, 4, 3), TRUE)
        self.assertEqual((shared(apart), new(apart)), ((), (3, 4)))
        many = ("some", atom(4, 5, 1, 2), TRUE, atom(4, 1, 8, 2), TRUE)
        self.assertEqual((shared(many), new(many)), ((1, 2), (8,)))

    def test_sentence_of(self):
        self.assertEqual(sentence_of(ALL), ("all", (0, 2, 5), ALL[1], ALL[2]))
        self.assertEqual(sentence_of(form=ONCE), ("some", (7,), ONCE[1], ONCE[2]))
        self.assertEqual(
            sentence_of(SOME),
            ("all", (1, 3), SOME[1], ("or", (("not", SOME[2]), ("some", (0,), SOME[3], SOME[4])))),
        )
        self.assertEqual(sentence_of(("all", sort(1, 4), FALSE)), ("all", (4,), sort(1, 4), FALSE))

    def test_sentence_of_may_be_beyond_the_bounds(self):
        long = ("some", sort(0, 0), bend(12, atom(1, 0)), atom(0, 0, 1), broad(200, atom(1, 1)))
        store = ((2, 0, 0), ((0, (0, 1)), (0, (1, 1)), (1, (1,))))
        self.assertEqual(holds(store, sentence_of(long), ()), keeps(store, long))

    def test_made(self):
        for seed in range(100):
            sentence = sentence_of(Maker(MIXED, seed).form())
            self.assertEqual(slow_free(sentence), set())
            term_sorts(MIXED, sentence, ())


def slow_breaks(store, form):
    """breaks as [9] says it, trying all things."""
    if form[0] == "once":
        return None if slow_holds(store, sentence_of(form), ()) else ()
    terms = guard_variables(form[1])
    for things in itertools.product(range(len(store_sorts(store))), repeat=len(terms)):
        values = tuple(zip(terms, things))
        inner = sentence_of(form)[3]
        if slow_holds(store, both(form[1]), values) if form[1][0] == "atom" else \
                store_sorts(store)[things[0]] == form[1][1]:
            if not slow_holds(store, inner, values):
                return things
    return None


class BreaksTest(unittest.TestCase):
    store = ((3,), ((0, (0, 1)), (0, (1, 1)), (0, (2, 0)), (1, (1,)), (1, (2,))))

    def test_all(self):
        self.assertEqual(breaks(self.store, ("all", atom(0, 0, 1), atom(1, 1))), (2, 0))
        self.assertEqual(breaks(self.store, ("all", atom(0, 1, 0), atom(1, 0))), (0, 2))
        self.assertEqual(breaks(self.store, ("all", atom(0, 4, 4), neg(atom(1, 4)))), (1,))
        self.assertIsNone(breaks(self.store, ("all", atom(0, 0, 1), either(atom(1, 1), atom(1, 0)))))
        self.assertEqual(breaks(self.store, ("all", sort(0, 0), atom(1, 0))), (0,))

    def test_least_tuple(self):
        self.assertEqual(breaks(self.store, ("all", atom(0, 0, 1), FALSE)), (0, 1))
        self.assertEqual(breaks(self.store, ("all", atom(0, 1, 0), FALSE)), (0, 2))
        self.assertEqual(breaks(store=self.store, form=("all", atom(0, 0, 1), ("equal", 0, 1))), (0, 1))

    def test_some(self):
        onward = ("some", atom(1, 0), TRUE, atom(0, 0, 1), atom(1, 1))
        self.assertEqual(breaks(self.store, onward), (2,))
        self.assertIsNone(breaks(self.store, ("some", atom(1, 0), ("equal", 0, 0), atom(0, 0, 1), TRUE)))
        self.assertIsNone(breaks(self.store, ("some", atom(1, 0), FALSE, atom(0, 1, 0), FALSE)))
        backward = ("some", sort(0, 0), TRUE, atom(0, 1, 0), TRUE)
        self.assertEqual(breaks(self.store, backward), (2,))
        self.assertIsNone(breaks(self.store, ("some", sort(0, 0), TRUE, sort(0, 1), atom(1, 1))))
        self.assertEqual(breaks(self.store, ("some", sort(0, 0), TRUE, sort(0, 1), FALSE)), (0,))

    def test_once(self):
        self.assertEqual(breaks(self.store, ("once", atom(0, 0, 1), ("equal", 0, 1))), None)
        self.assertEqual(breaks(self.store, ("once", atom(0, 0, 0), neg(atom(1, 0)))), ())
        self.assertEqual(breaks(((0,), ()), ("once", sort(0, 0), TRUE)), ())

    def test_stores_without_things(self):
        empty = ((0,), ())
        self.assertIsNone(breaks(empty, ("all", sort(0, 0), FALSE)))
        self.assertIsNone(breaks(empty, ("some", sort(0, 0), TRUE, sort(0, 1), FALSE)))

    def test_keeps(self):
        self.assertIs(keeps(self.store, ("all", sort(0, 0), TRUE)), True)
        self.assertIs(keeps(store=self.store, form=("all", sort(0, 0), FALSE)), False)
        self.assertIs(keeps(self.store, ("once", sort(0, 0), atom(1, 0))), True)

    def test_made(self):
        kept = 0
        for seed in range(400):
            maker = Maker(MIXED, seed)
            store, form = maker.store(2), maker.form()
            self.assertEqual(breaks(store, form), slow_breaks(store, form))
            self.assertIs(keeps(store, form), slow_holds(store, sentence_of(form), ()))
            self.assertEqual(holds(store, sentence_of(form), ()), keeps(store, form))
            kept += keeps(store, form)
        self.assertTrue(80 < kept < 320)

    def test_large_store(self):
        ring = ((4000,), tuple((0, (thing, (thing + 1) % 4000)) for thing in range(4000)) + ((1, (3999,)),))
        self.assertEqual(breaks(ring, ("some", atom(0, 0, 1), atom(1, 1), atom(0, 2, 0), atom(1, 2))), (3998, 3999))
        self.assertIs(keeps(ring, ("some", sort(0, 0), TRUE, atom(0, 1, 0), TRUE)), True)


class GuardedSetsTest(unittest.TestCase):
    def test_sets(self):
        store = ((2, 1, 0), ((0, (1, 0)), (0, (1, 1)), (4, (0, 0, 2)), (4, (1, 0, 2))))
        self.assertEqual(guarded_sets(store), ((0,), (0, 1), (0, 1, 2), (0, 2), (1,), (2,)))
        self.assertEqual(guarded_sets(((9, 0, 0), ((0, (8, 1)),)))[1:3], ((1,), (1, 8)))
        self.assertEqual(guarded_sets(store=((0, 0, 0), ())), ())
        self.assertEqual(guarded_sets(((1,), ((0, (0, 0)),))), ((0,),))
        self.assertEqual(guarded_sets(((2,), ((0, (0, 1)), (0, (1, 0))))), ((0,), (0, 1), (1,)))


if __name__ == "__main__":
    unittest.main()
