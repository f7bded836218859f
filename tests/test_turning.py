"""[8]: sentences turned into forms."""

import unittest

from bagkinds.errors import TooMany
from bagkinds.forms import check_form, keeps
from bagkinds.formulas import check_formula
from bagkinds.languages import check_language
from bagkinds.turning import to_forms
from tests.helpers import (
    ARROWS, FALSE, MIXED, TRUE, Maker, atom, bend, both, broad, either, is_plain_value, neg, slow_holds,
    slow_standing, sort, store_sorts,
)

WITH_H = (2, (("h", (0, 0, 1)), ("u", (1,))))


def some(number):
    """A switch about things with p."""
    return ("some", (number,), atom(1, number), TRUE)


def next_of(term, fresh):
    """A part with one free term."""
    return ("some", (fresh,), atom(0, term, fresh), TRUE)


class ExampleTest(unittest.TestCase):
    def test_example_of_the_document(self):
        h, u = (lambda *terms: atom(0, *terms)), (lambda term: atom(1, term))
        newa = atom(2, 0, 1)
        inner = ("some", (3,), h(0, 1, 3), u(3))
        sentence = ("all", (0, 1, 2), h(0, 1, 2), either(u(2), inner))
        forms = (
            ("all", h(0, 1, 3), either(neg(u(3)), newa)),
            ("some", newa, TRUE, h(0, 1, 3), u(3)),
            ("all", h(0, 1, 2), neg(neg(either(u(2), newa)))),
        )
        language = (2, WITH_H[1] + (("newa", (0, 0)),))
        self.assertEqual(to_forms(WITH_H, sentence), (language, (((0,), forms),)))
        self.assertEqual(to_forms(language=WITH_H, sentence=sentence), (language, (((0,), forms),)))


class SmallTest(unittest.TestCase):
    def test_without_parts_that_bind(self):
        self.assertEqual(to_forms(ARROWS, TRUE), (ARROWS, (((), ()),)))
        self.assertEqual(to_forms(ARROWS, FALSE), (ARROWS, ()))
        self.assertEqual(to_forms(ARROWS, neg(both(TRUE, FALSE))), (ARROWS, (((), ()),)))

    def test_one_switch(self):
        self.assertEqual(to_forms(ARROWS, some(0)), (ARROWS, (((1,), (("once", atom(1, 0), TRUE),)),)))
        told = ("all", atom(1, 0), neg(TRUE))
        self.assertEqual(to_forms(ARROWS, neg(some(0))), (ARROWS, (((0,), (told,)),)))

    def test_all_is_the_denial_of_some(self):
        sentence = ("all", (0, 1), atom(0, 0, 1), atom(1, 1))
        denied = neg(atom(1, 1))
        self.assertEqual(to_forms(ARROWS, sentence), (ARROWS, (((0,), (("all", atom(0, 0, 1), neg(denied)),)),)))
        self.assertEqual(to_forms(ARROWS, neg(sentence)), (ARROWS, (((1,), (("once", atom(0, 0, 1), denied),)),)))

    def test_cases_ascend(self):
        language, cases = to_forms(ARROWS, either(some(0), neg(some(1))))
        self.assertEqual([bits for bits, _ in cases], [(0, 0), (1, 0), (1, 1)])
        self.assertEqual(cases[1][1], (("once", atom(1, 0), TRUE), ("all", atom(1, 1), neg(TRUE))))

    def test_all_with_a_free_term(self):
        part = ("all", (1,), atom(0, 0, 1), atom(1, 1))
        denied, newa = neg(atom(1, 1)), atom(2, 0)
        language, cases = to_forms(ARROWS, ("some", (0,), sort(0, 0), part))
        self.assertEqual(language, (1, ARROWS[1] + (("newa", (0,)),)))
        self.assertEqual(cases, (((1,), (
            ("all", atom(0, 0, 1), either(neg(denied), newa)),
            ("some", newa, TRUE, atom(0, 0, 1), denied),
            ("once", sort(0, 0), neg(newa)),
        )),))

    def test_inner_parts_come_first_and_then_left_ones(self):
        left = ("some", (2,), atom(0, 0, 2), next_of(2, 3))
        right = ("some", (4,), atom(0, 4, 0), TRUE)
        language, cases = to_forms(ARROWS, ("some", (0,), sort(0, 0), both(left, right)))
        self.assertEqual([name for name, _ in language[1][2:]], ["newa", "newb", "newc"])
        bits, forms = cases[0]
        self.assertEqual(bits, (1,))
        self.assertEqual([form[3] for form in forms if form[0] == "some"], [atom(0, 2, 3), atom(0, 0, 2), atom(0, 4, 0)])
        self.assertEqual([form[1] for form in forms if form[0] == "some"], [atom(2, 2), atom(3, 0), atom(4, 0)])
        self.assertEqual(forms[3], ("some", atom(3, 0), TRUE, atom(0, 0, 2), atom(2, 2)))
        self.assertEqual(forms[-1], ("once", sort(0, 0), both(atom(3, 0), atom(4, 0))))

    def test_switch_within_a_part_with_free_terms(self):
        part = ("some", (1,), atom(0, 0, 1), some(2))
        sentence = ("some", (0,), sort(0, 0), part)
        newa = atom(2, 0)
        language, cases = to_forms(ARROWS, sentence)
        self.assertEqual([bits for bits, _ in cases], [(0, 1), (1, 1)])
        for (bits, forms), told, kept in zip(cases, (FALSE, TRUE), (("all", atom(1, 2), neg(TRUE)),
                                                                   ("once", atom(1, 2), TRUE))):
            self.assertEqual(forms, (
                ("all", atom(0, 0, 1), either(neg(told), newa)),
                ("some", newa, TRUE, atom(0, 0, 1), told),
                kept,
                ("once", sort(0, 0), newa),
            ))

    def test_switch_within_a_switch(self):
        language, cases = to_forms(ARROWS, ("some", (0,), sort(0, 0), neg(some(1))))
        self.assertEqual(cases, (
            ((0, 1), (("all", atom(1, 1), neg(TRUE)), ("once", sort(0, 0), neg(FALSE)))),
            ((1, 1), (("once", atom(1, 1), TRUE), ("once", sort(0, 0), neg(TRUE)))),
        ))

    def test_sorts_of_new_relations(self):
        sentence = ("some", (0, 1, 2), atom(5, 0, 1, 2, 0), ("some", (3,), atom(5, 3, 1, 2, 0), TRUE))
        language, _ = to_forms(MIXED, sentence)
        self.assertEqual(language[1][-1], ("newa", (2, 1, 0)))


class NamesTest(unittest.TestCase):
    def test_names_that_are_there(self):
        language = (1, (("newb", (0, 0)), ("p", (0,)), ("newc", (0,))))
        sentence = ("some", (0,), sort(0, 0), both(next_of(0, 1), next_of(0, 2), next_of(0, 3)))
        told, _ = to_forms(language, sentence)
        self.assertEqual(told, (1, language[1] + (("newa", (0,)), ("newd", (0,)), ("newe", (0,)))))

    def test_all_but_the_last_letters(self):
        names = tuple(("new" + letter, (0, 0)) for letter in "abcdefghijklmno")
        told, _ = to_forms((1, names), ("some", (0,), sort(0, 0), next_of(0, 1)))
        self.assertEqual(told[1][-1], ("newp", (0,)))


class TooManyTest(unittest.TestCase):
    def too_many(self, language, sentence):
        with self.assertRaises(TooMany):
            to_forms(language, sentence)

    def test_switches(self):
        six = both(*[some(number) for number in range(6)])
        self.assertEqual([bits for bits, _ in to_forms(ARROWS, six)[1]], [(1,) * 6])
        self.assertEqual(len(to_forms(ARROWS, either(TRUE, six))[1]), 64)
        self.too_many(ARROWS, both(*[some(number) for number in range(7)]))
        self.too_many(ARROWS, both(FALSE, *[some(number) for number in range(7)]))

    def test_new_relations(self):
        def sentence(many):
            return ("some", (0,), sort(0, 0), both(*[next_of(0, number + 1) for number in range(many)]))
        language, cases = to_forms(ARROWS, sentence(8))
        self.assertEqual([name for name, _ in language[1]], ["r", "p"] + ["new" + letter for letter in "abcdefgh"])
        self.assertEqual(len(cases[0][1]), 17)
        self.too_many(ARROWS, sentence(9))
        large = (1, ARROWS[1] + tuple(("q" + letter, (0,)) for letter in "abcdefghijkl"))
        self.assertEqual(len(to_forms(large, sentence(2))[0][1]), 16)
        self.too_many(large, sentence(3))
        full = (1, large[1] + (("x", (0,)), ("y", (0,))))
        self.assertEqual(to_forms(full, some(0))[0], full)
        self.too_many(full, sentence(1))


class BoundsTest(unittest.TestCase):
    def test_forms_of_sentences_of_nine_levels_and_150_parts(self):
        inner = ("all", (1,), atom(0, 0, 1), bend(7, atom(1, 1)))
        for sentence in (("all", (0,), sort(0, 0), inner), ("all", (0,), sort(0, 0), broad(148, atom(1, 0)))):
            self.assertIsNone(check_formula(ARROWS, sentence, ()))
            language, cases = to_forms(ARROWS, sentence)
            for _, forms in cases:
                for form in forms:
                    self.assertIsNone(check_form(language, form))


def with_new_atoms(store, language, forms, old):
    """The store with what the added forms say of the new relations, those from the number old on."""
    sorts, atoms = store_sorts(store), set(store[1])
    for number in range(old, len(language[1])):
        _, guard, _, head, e = forms[2 * (number - old) + 1]
        terms = sorted(set(head[2:] if head[0] == "sort" else head[2]))
        for things in slow_standing(sorts, atoms, head, e):
            values = dict(zip(terms, things))
            atoms.add((number, tuple(values[term] for term in guard[2])))
    return (store[0], tuple(sorted(atoms)))


class MadeTest(unittest.TestCase):
    def test_a_sentence_holds_exactly_if_one_case_is_kept(self):
        seen, held = 0, 0
        for seed in range(500):
            maker = Maker(MIXED, seed)
            sentence, store = maker.sentence(4), maker.store(2)
            try:
                language, cases = to_forms(MIXED, sentence)
            except TooMany:
                continue
            self.assertIsNone(check_language(language))
            self.assertTrue(is_plain_value((language, cases)))
            self.assertEqual(cases, tuple(sorted(cases, key=lambda case: case[0])))
            kept = 0
            for bits, forms in cases:
                for form in forms:
                    self.assertIsNone(check_form(language, form))
                full = with_new_atoms(store, language, forms, len(MIXED[1]))
                kept += all(keeps(full, form) for form in forms)
            self.assertEqual(kept, 1 if slow_holds(store, sentence, ()) else 0)
            seen, held = seen + (len(language[1]) > len(MIXED[1])), held + kept
        self.assertGreater(seen, 50)
        self.assertGreater(held, 100)


if __name__ == "__main__":
    unittest.main()
