"""[29], [30], [31]: plain rules, closing, and what follows of facts."""

import unittest

from bagkinds.errors import NotPlain, TooMany
from bagkinds.lines import bar, check_bar, check_derived, derive
from bagkinds.leasts import least_store
from bagkinds.plain import closed_facts, closure, is_plain, once_clash
from tests.helpers import FALSE, TRUE, atom, both, either, is_plain_value, neg, slow_row_atoms, sort
from tests.slow_plain import CLASH, PLAIN, SORTED, SlowFamily, plain_book, slow_facts, slow_once_clash

R, P, Q = 0, 1, 2


def rule(guard, front, given):
    return ("all", guard, either(neg(both(*front)), given))


def clash(guard, *front):
    return ("all", guard, neg(both(*front)))


def some(guard, front, head, *e):
    return ("some", guard, both(*front), head, both(*e))


def once(head, *e):
    return ("once", head, both(*e))


PLAIN_FORMS = (
    rule(atom(R, 0, 1), (), atom(P, 0)), rule(atom(R, 0, 0), (atom(P, 0), atom(P, 0)), atom(R, 0, 0)),
    rule(sort(0, 3), (atom(P, 3),), atom(Q, 3)), clash(sort(0, 3)), clash(atom(R, 0, 1), atom(P, 1), atom(R, 1, 0)),
    some(atom(R, 0, 1), (), atom(R, 1, 2)), some(sort(0, 0), (atom(P, 0),), sort(0, 1), atom(Q, 1)),
    once(atom(R, 0, 1)), once(sort(0, 0), atom(P, 0), atom(R, 0, 0)),
)
OTHER_FORMS = (
    ("all", atom(R, 0, 1), atom(P, 0)), ("all", atom(R, 0, 1), either(atom(P, 0))), ("all", atom(R, 0, 1), TRUE),
    ("all", atom(R, 0, 1), FALSE), ("all", atom(R, 0, 1), either(neg(TRUE), atom(P, 0), atom(P, 1))),
    ("all", atom(R, 0, 1), either(neg(TRUE))), ("all", atom(R, 0, 1), either(atom(P, 0), neg(TRUE))),
    ("all", atom(R, 0, 1), either(neg(atom(P, 0)), atom(P, 1))), ("all", atom(R, 0, 1), neg(atom(P, 0))),
    ("all", atom(R, 0, 1), neg(neg(TRUE))), ("all", atom(R, 0, 1), neg(either(atom(P, 0)))), ("all", atom(R, 0, 1), neg(FALSE)),
    ("all", atom(R, 0, 1), either(neg(both(neg(atom(P, 0)))), atom(P, 1))), ("all", atom(R, 0, 1), either(TRUE, atom(P, 1))),
    ("all", atom(R, 0, 1), either(neg(both(both(atom(P, 0)))), atom(P, 1))), ("all", atom(R, 0, 1), ("equal", 0, 1)),
    ("all", atom(R, 0, 1), either(neg(TRUE), ("equal", 0, 1))), ("all", atom(R, 0, 1), either(neg(TRUE), neg(atom(P, 1)))),
    ("all", atom(R, 0, 1), either(neg(both(("equal", 0, 1))), atom(P, 1))), ("all", atom(R, 0, 1), neg(both(("equal", 0, 1)))),
    ("some", atom(R, 0, 1), atom(P, 0), atom(R, 1, 2), TRUE), ("some", atom(R, 0, 1), TRUE, atom(R, 1, 2), atom(P, 2)),
    ("some", atom(R, 0, 1), FALSE, atom(R, 1, 2), TRUE), ("some", atom(R, 0, 1), TRUE, atom(R, 1, 2), neg(FALSE)),
    ("some", atom(R, 0, 1), both(("equal", 0, 1)), atom(R, 1, 2), TRUE),
    ("some", atom(R, 0, 1), TRUE, atom(R, 1, 2), both(atom(P, 2), TRUE)),
    ("once", atom(R, 0, 1), atom(P, 0)), ("once", atom(R, 0, 1), FALSE), ("once", sort(0, 1), both(("equal", 1, 1))),
)


class IsPlainTest(unittest.TestCase):
    def test_plain(self):
        for form in PLAIN_FORMS:
            self.assertIs(is_plain(form), True)
        self.assertIs(is_plain(form=PLAIN_FORMS[0]), True)

    def test_others(self):
        for form in OTHER_FORMS:
            self.assertIs(is_plain(form), False, form)


class NotPlainTest(unittest.TestCase):
    def raises(self, number, call, *args):
        with self.assertRaises(NotPlain) as caught:
            call(*args)
        self.assertEqual(caught.exception.number, number)

    def books(self, number, book):
        self.raises(number, closed_facts, book)
        self.raises(number, least_store, book, 2)
        for goal in ((P, (0,)), CLASH):
            self.raises(number, derive, book, goal)
            self.raises(number, bar, book, goal)
            for value in (None, ((), ()), (True,), ((((0,), 0, goal),), ())):
                self.raises(number, check_derived, book, goal, value)
                self.raises(number, check_bar, book, goal, value)

    def test_forms(self):
        for number, form in enumerate(OTHER_FORMS):
            forms = PLAIN_FORMS[:number % 4] + (form,) + OTHER_FORMS[:2]
            self.raises(number % 4, closure, PLAIN, forms, (0,), ())
            self.raises(number % 4, once_clash, PLAIN, forms)
            self.books(number % 4, (PLAIN, forms, (0, 0), (atom(P, 0), neg(atom(P, 0)))))

    def test_facts(self):
        for fact in (neg(atom(P, 0)), both(atom(P, 0)), either(atom(P, 0)), TRUE, FALSE, ("equal", 0, 0)):
            self.books(9, (PLAIN, PLAIN_FORMS, (0,), (fact, atom(P, 0), neg(TRUE))))
            self.books(11, (PLAIN, PLAIN_FORMS, (0,), (atom(P, 0), atom(Q, 0), fact, neg(TRUE))))
            self.books(0, (PLAIN, (), (0,), (fact,)))

    def test_ahead_of_too_many(self):
        language, forms = growing_rules(14)
        self.raises(len(forms), closure, language, forms + OTHER_FORMS[:1], (0,), ((14, (0, 0)),))
        self.raises(len(forms), closed_facts, (language, forms, (0,), (neg(TRUE),)))


def growing_rules(many):
    """Rules by which each thing has nexts with one mark more, in any order: each lot of marks begins a set."""
    language = (1, tuple(("m" + "abcdefghijklmnop"[k], (0,)) for k in range(many)) + (("r", (0, 0)),))
    forms = []
    for mark in range(many):
        forms.append(some(sort(0, 0), (), atom(many, 0, 1), atom(mark, 1)))
        forms.append(rule(atom(many, 0, 1), (atom(mark, 0),), atom(mark, 1)))
    return language, tuple(forms)


def counter(bits, end):
    """Things count up to the end along r; what the last one has comes back to the first."""
    relations = tuple(("b" + "abcdefgh"[k], (0,)) for k in range(bits)) + (("r", (0, 0)), ("w", (0,)))
    language = (1, relations)

    def code(number, term):
        return tuple(atom(bit, term) for bit in range(bits) if number >> bit & 1)

    forms = [some(sort(0, 0), code(number, 0), atom(bits, 0, 1), *code(number + 1, 1)) for number in range(1, end)]
    forms.append(rule(sort(0, 0), code(end, 0), atom(bits + 1, 0)))
    forms.append(rule(atom(bits, 0, 1), (atom(bits + 1, 1),), atom(bits + 1, 0)))
    return language, tuple(forms)


class ClosureTest(unittest.TestCase):
    def test_rules(self):
        forms = (rule(atom(R, 0, 1), (atom(P, 0),), atom(P, 1)), rule(atom(R, 5, 5), (), atom(Q, 5)),
                 rule(sort(0, 7), (atom(P, 7), atom(Q, 7)), atom(R, 7, 7)))
        told = ((R, (0, 1)), (R, (1, 2)), (P, (0,)))
        self.assertEqual(closure(PLAIN, forms, (0, 0, 0), told),
                         ((R, (0, 1)), (R, (1, 2)), (P, (0,)), (P, (1,)), (P, (2,))))
        self.assertEqual(closure(language=PLAIN, forms=forms, sorts=(0,), atoms=((R, (0, 0)), (P, (0,)))),
                         ((R, (0, 0)), (P, (0,)), (Q, (0,))))
        self.assertEqual(closure(PLAIN, forms, (0,), ((Q, (0,)), (P, (0,)))), ((R, (0, 0)), (P, (0,)), (Q, (0,))))
        self.assertEqual(closure(PLAIN, (), (0,), ()), ())

    def test_sorts_in_any_order(self):
        forms = (rule(atom(0, 0, 1), (), atom(3, 0)), rule(atom(1, 0, 1, 2), (atom(2, 0),), atom(2, 2)),
                 rule(sort(1, 4), (), atom(3, 4)))
        self.assertEqual(closure(SORTED, forms, (1, 0, 0), ((0, (0, 2)),)), ((0, (0, 2)), (3, (0,))))
        self.assertEqual(closure(SORTED, forms, (0, 1, 0, 1), ((1, (2, 1, 0)), (2, (2,)))),
                         ((1, (2, 1, 0)), (2, (0,)), (2, (2,)), (3, (1,)), (3, (3,))))
        self.assertEqual(closure(SORTED, forms, (1, 1), ()), ((3, (0,)), (3, (1,))))

    def test_clash(self):
        forms = (clash(atom(R, 0, 1), atom(P, 0), atom(Q, 1)), rule(atom(R, 0, 1), (), atom(Q, 1)))
        self.assertEqual(closure(PLAIN, forms, (0, 0), ((P, (0,)), (R, (0, 1)))), CLASH)
        self.assertEqual(closure(PLAIN, forms, (0, 0), ((P, (0,)), (R, (1, 0)))), ((R, (1, 0)), (P, (0,)), (Q, (0,))))
        self.assertEqual(closure(PLAIN, forms, (0,), ((P, (0,)), (R, (0, 0)))), CLASH)
        self.assertEqual(closure(PLAIN, (clash(sort(0, 0)),), (0,), ()), CLASH)
        self.assertEqual(closure(SORTED, (clash(sort(0, 0)),), (1,), ()), ())

    def test_some_without_shared_variables(self):
        forms = (some(atom(P, 0), (), atom(R, 1, 2), atom(Q, 2)), clash(atom(R, 0, 1), atom(Q, 1)))
        self.assertEqual(closure(PLAIN, forms, (0, 0), ((P, (1,)),)), CLASH)
        self.assertEqual(closure(PLAIN, forms, (0, 0), ((Q, (1,)),)), ((Q, (1,)),))
        forms = (some(atom(P, 0), (), sort(0, 1), atom(Q, 1)), rule(sort(0, 0), (atom(Q, 0),), atom(P, 0)))
        self.assertEqual(closure(PLAIN, forms, (0,), ((P, (0,)),)), ((P, (0,)),))

    def test_some_with_shared_variables(self):
        """What a next of x tells of x comes back; what it tells of itself does not."""
        forms = (some(atom(P, 0), (), atom(R, 0, 1), atom(Q, 1)), rule(atom(R, 0, 1), (atom(Q, 1),), atom(Q, 0)),
                 rule(atom(R, 0, 1), (atom(P, 0), atom(Q, 1)), atom(R, 0, 0)))
        self.assertEqual(closure(PLAIN, forms, (0, 0), ((P, (1,)),)), ((R, (1, 1)), (P, (1,)), (Q, (1,))))
        self.assertEqual(closure(PLAIN, forms[:2], (0, 0), ((P, (1,)),)), ((P, (1,)), (Q, (1,))))

    def test_two_shared_variables_on_one_slot(self):
        language = (1, (("t", (0, 0, 0)), ("r", (0, 0)), ("p", (0,))))
        forms = (some(atom(1, 0, 1), (), atom(0, 0, 1, 2)), rule(atom(0, 0, 0, 1), (), atom(2, 0)),
                 rule(atom(0, 0, 1, 2), (atom(1, 0, 1), atom(1, 1, 0)), atom(2, 1)))
        self.assertEqual(closure(language, forms, (0, 0), ((1, (0, 1)),)), ((1, (0, 1)),))
        self.assertEqual(closure(language, forms, (0, 0), ((1, (1, 1)),)), ((1, (1, 1)), (2, (1,))))
        self.assertEqual(closure(language, forms, (0, 0), ((1, (0, 1)), (1, (1, 0)))),
                         ((1, (0, 1)), (1, (1, 0)), (2, (0,)), (2, (1,))))

    def test_what_stands_above_goes_below(self):
        """An atom over shared slots that comes later begins another set."""
        forms = (some(atom(R, 0, 1), (), atom(R, 1, 2)), rule(atom(R, 0, 1), (atom(P, 0), atom(Q, 0)), atom(Q, 1)),
                 rule(atom(R, 0, 1), (atom(P, 0),), atom(Q, 0)), clash(atom(R, 0, 1), atom(Q, 0), atom(Q, 1), atom(P, 1)))
        told = ((R, (0, 1)), (P, (0,)))
        self.assertEqual(closure(PLAIN, forms, (0, 0), told), tuple(sorted(told + ((Q, (0,)), (Q, (1,))))))
        self.assertEqual(closure(PLAIN, forms, (0, 0), told + ((P, (1,)),)), CLASH)

    def test_rings(self):
        """Sets that ask for one another in a ring tell each other nothing that does not come from without."""
        forms = (some(atom(P, 0), (), atom(R, 0, 1), atom(Q, 1)), some(atom(Q, 0), (), atom(R, 0, 1), atom(P, 1)))
        back = rule(atom(R, 0, 1), (atom(R, 1, 1),), atom(R, 0, 0))
        self.assertEqual(closure(PLAIN, forms + (back,), (0,), ((P, (0,)),)), ((P, (0,)),))
        turn = rule(atom(R, 0, 1), (atom(P, 0), atom(Q, 1)), atom(R, 1, 1))
        self.assertEqual(closure(PLAIN, forms + (back, turn), (0,), ((Q, (0,)),)), ((R, (0, 0)), (Q, (0,))))

    def test_chains(self):
        for end in (2, 7, 30):
            language, forms = counter(5, end)
            first = ((0, (0,)),)
            self.assertEqual(closure(language, forms, (0,), first), first + ((6, (0,)),))
            short = tuple(form for number, form in enumerate(forms) if number != end // 2)
            self.assertEqual(closure(language, short, (0,), first), first)
            barred = clash(sort(0, 0), *forms[-2][2][1][0][1][1])
            self.assertEqual(closure(language, forms[:-2] + (barred,), (0,), first), CLASH)

    def test_once_gives_nothing(self):
        forms = (once(atom(R, 0, 1), atom(P, 0)), clash(atom(R, 0, 1), atom(P, 0)))
        self.assertEqual(closure(PLAIN, forms, (0,), ((Q, (0,)),)), ((Q, (0,)),))

    def test_made(self):
        for seed in range(500):
            language, forms, _, _ = plain_book(seed, 5 + seed % 12)
            for sorts in ((0,), (language[0] - 1, 0), (0, 0), (0, language[0] - 1, 0)):
                told = slow_row_atoms(language, sorts)
                told = tuple(pair for number, pair in enumerate(told) if (seed * 7 + number * 5) % 6 == 0)[::-1]
                found = closure(language, forms, sorts, told)
                self.assertEqual(found, SlowFamily(language, forms).closed(sorts, told))
                self.assertTrue(is_plain_value(found))


class OnceClashTest(unittest.TestCase):
    def test_forms(self):
        forms = (once(atom(R, 0, 1), atom(P, 0)), clash(atom(R, 0, 0)), once(atom(R, 4, 4)), once(sort(0, 0), atom(Q, 0)),
                 some(atom(Q, 0), (), atom(R, 0, 1), atom(R, 1, 1)), once(atom(R, 1, 0), atom(R, 0, 1)))
        self.assertEqual(once_clash(PLAIN, forms), (2, 3))
        self.assertEqual(once_clash(language=PLAIN, forms=forms[:2]), ())
        self.assertEqual(once_clash(PLAIN, ()), ())

    def test_made(self):
        seen = 0
        for seed in range(400):
            language, forms, _, _ = plain_book(seed, 14)
            found = once_clash(language, forms)
            self.assertEqual(found, slow_once_clash(language, forms))
            seen += len(found) > 0
        self.assertGreater(seen, 40)


class ClosedFactsTest(unittest.TestCase):
    def test_facts_bring_new_guarded_sets(self):
        forms = (rule(atom(R, 0, 1), (), atom(R, 1, 0)), rule(atom(R, 0, 1), (atom(P, 0),), atom(P, 1)))
        book = (PLAIN, forms, (0,) * 3, (atom(R, 0, 1), atom(R, 2, 1), atom(P, 0)))
        self.assertEqual(closed_facts(book), ((R, (0, 1)), (R, (1, 0)), (R, (1, 2)), (R, (2, 1)),
                                              (P, (0,)), (P, (1,)), (P, (2,))))
        self.assertEqual(closed_facts(book=(PLAIN, forms, (0,) * 3, (atom(R, 0, 1), atom(P, 2)))),
                         ((R, (0, 1)), (R, (1, 0)), (P, (2,))))
        language = (1, (("t", (0, 0, 0)), ("r", (0, 0)), ("p", (0,))))
        forms = (rule(atom(0, 0, 1, 2), (), atom(1, 0, 2)), rule(atom(1, 0, 1), (), atom(2, 1)))
        self.assertEqual(closed_facts((language, forms, (0,) * 4, (atom(0, 3, 1, 2),))),
                         ((0, (3, 1, 2)), (1, (3, 2)), (2, (2,))))

    def test_clash(self):
        forms = (clash(atom(R, 0, 1), atom(P, 1)),)
        self.assertEqual(closed_facts((PLAIN, forms, (0, 0), (atom(R, 0, 1), atom(P, 1)))), CLASH)
        self.assertEqual(closed_facts((PLAIN, forms, (0, 0), (atom(R, 0, 1), atom(P, 0)))), ((R, (0, 1)), (P, (0,))))
        self.assertEqual(closed_facts((PLAIN, forms + (once(atom(R, 0, 1), atom(P, 1)),), (), ())), CLASH)
        self.assertEqual(closed_facts((PLAIN, (clash(sort(0, 0)),), (), ())), ())
        self.assertEqual(closed_facts((PLAIN, (clash(sort(0, 0)),), (0,), ())), CLASH)
        self.assertEqual(closed_facts((PLAIN, (), (), ())), ())

    def test_80_facts_and_12_names(self):
        facts = tuple(atom(R, k % 12, (k + 1 + k // 12) % 12) for k in range(79)) + (atom(P, 5),)
        forms = (rule(atom(R, 0, 1), (atom(P, 0),), atom(P, 1)), some(atom(P, 0), (), atom(R, 0, 1), atom(Q, 1)))
        found = closed_facts((PLAIN, forms, (0,) * 12, facts))
        self.assertEqual([pair for pair in found if pair[0] == P], [(P, (name,)) for name in range(12)])
        self.assertEqual(found, slow_facts((PLAIN, forms, (0,) * 12, facts)))

    def test_made(self):
        seen = {True: 0, False: 0}
        for seed in range(500):
            book = plain_book(seed, 4 + seed % 14, 4, 6)
            found = closed_facts(book)
            self.assertEqual(found, slow_facts(book))
            seen[found == CLASH] += 1
        self.assertGreater(min(list(seen.values())), 50)


class SizesTest(unittest.TestCase):
    def test_many_sets(self):
        """Up to 2000 sets give a right result; beyond, a right result or TooMany."""
        for many in (6, 10):
            language, forms = growing_rules(many)
            told = ((0, (0,)), (many, (0, 1)))
            self.assertEqual(closure(language, forms, (0, 0), told), ((0, (0,)), (0, (1,)), (many, (0, 1))))
        language, forms = growing_rules(15)
        with self.assertRaises(TooMany):
            closure(language, forms, (0,), ())
        book = (language, forms, (0,), ())
        for call in (closed_facts, lambda told: derive(told, CLASH), lambda told: bar(told, CLASH),
                     lambda told: least_store(told, 1), lambda told: once_clash(language, forms + (once(sort(0, 0)),))):
            with self.assertRaises(TooMany):
                call(book)


if __name__ == "__main__":
    unittest.main()
