"""[15] and [16], and [3] as far as tables."""

import unittest

from bagkinds.errors import TooMany
from bagkinds.kinds import all_kinds
from bagkinds.tables import always, ever, greatest_table, is_table, missing_once, strikes
from tests.helpers import (
    ARROWS, FALSE, TRUE, Maker, atom, bend, both, broad, either, is_plain_value, neg, slow_true, sort,
)
from tests.slow import SMALL, TWO, all_stores, made_book, slow_keeps, slow_missing, slow_needs, slow_strikes, slow_ways
from tests.test_kinds import just

ONWARD = ("some", atom(1, 0), TRUE, atom(0, 0, 1), atom(1, 1))
NO_TURN = ("all", atom(0, 0, 1), neg(atom(0, 1, 0)))
NO_NEXT_WITH_P = ("all", atom(0, 0, 1), neg(atom(1, 1)))
# r(0, 0), a(0), b(0), c(0)
CHAIN = (1, (("r", (0, 0)), ("a", (0,)), ("b", (0,)), ("c", (0,))))
ONE = ((0,), ())


def next_with(here, there):
    """Each thing with the relation here has an r-next with the relation there."""
    return ("some", atom(here, 0), TRUE, atom(0, 0, 1), atom(there, 1))


class ExampleTest(unittest.TestCase):
    forms = (ONWARD, NO_TURN)

    def test_without_the_further_form(self):
        self.assertEqual(strikes(ARROWS, self.forms), ())
        self.assertEqual(greatest_table(ARROWS, self.forms), all_kinds(ARROWS, self.forms))
        self.assertEqual(len(greatest_table(language=ARROWS, forms=self.forms)), 6)
        self.assertIs(ever(ARROWS, self.forms, atom(1, 0), TRUE), True)
        self.assertIs(always(ARROWS, self.forms, atom(0, 0, 1), neg(atom(0, 1, 0))), True)
        self.assertIs(always(ARROWS, self.forms, atom(0, 0, 1), neg(("equal", 0, 1))), True)

    def test_with_the_further_form(self):
        forms = self.forms + (NO_NEXT_WITH_P,)
        point, line = ((0,), ((1, (0,)),)), ((0, 0), ((0, (0, 1)), (1, (0,))))
        self.assertEqual(strikes(ARROWS, forms), ((point, (0, (0,))), (line, (0, (0,)))))
        self.assertEqual(strikes(language=ARROWS, forms=forms), strikes(ARROWS, forms))
        self.assertEqual(greatest_table(ARROWS, forms), (ONE, ((0, 0), ((0, (0, 1)),))))
        self.assertIs(ever(ARROWS, forms, atom(1, 0), TRUE), False)
        self.assertIs(always(ARROWS, forms, sort(0, 7), neg(atom(1, 7))), True)
        self.assertIs(ever(ARROWS, forms, atom(0, 1, 0), TRUE), True)


class StrikesTest(unittest.TestCase):
    def test_several_rounds(self):
        forms = (next_with(1, 2), next_with(2, 3), ("all", atom(3, 0), FALSE))
        told = strikes(CHAIN, forms)
        # Only the slot 0 of the table's one-slot kinds is looked at here.
        short = [(atoms, need) for (sorts, atoms), need in told if sorts == (0,) and (0, (0, 0)) not in atoms]
        self.assertEqual(short, [
            (((1, (0,)), (2, (0,))), (1, (0,))), (((2, (0,)),), (1, (0,))), (((1, (0,)),), (0, (0,))),
        ])
        self.assertEqual(told, slow_strikes(CHAIN, forms)[0])

    def test_least_need_at_the_beginning_of_the_round(self):
        # a needs a next with b, and one with c; b falls in the first round, and so does what has c.
        forms = (next_with(1, 2), next_with(1, 3), next_with(2, 3), ("all", atom(3, 0), FALSE))
        told = dict(strikes(CHAIN, forms))
        # The first need is met when the first round begins, so the second one is told, though both fail later.
        self.assertEqual(told[((0,), ((1, (0,)),))], (1, (0,)))
        self.assertEqual(told[((0,), ((2, (0,)),))], (2, (0,)))
        turned = (forms[1], forms[0]) + forms[2:]
        self.assertEqual(dict(strikes(CHAIN, turned))[((0,), ((1, (0,)),))], (0, (0,)))

    def test_rounds_with_one_strike_each(self):
        language = (1, (("a", (0,)), ("b", (0,)), ("c", (0,))))
        one_each = tuple(("all", atom(k, 0), both(*[neg(atom(j, 0)) for j in range(3) if j != k])) for k in range(3))
        some = ("all", sort(0, 0), either(atom(0, 0), atom(1, 0), atom(2, 0)))
        asks = tuple(("some", atom(k, 0), TRUE, sort(0, 1), atom(k + 1, 1)) for k in range(2))
        forms = one_each + (some,) + asks + (("some", atom(2, 0), TRUE, sort(0, 1), FALSE),)
        a, b, c = [((0,), ((k, (0,)),)) for k in range(3)]
        self.assertEqual(strikes(language, forms), ((c, (6, ())), (b, (5, ())), (a, (4, ()))))
        self.assertEqual(strikes(language, forms[:6]), ())

    def test_least_slots_of_a_need(self):
        # The shared variable is the second one of the guard, so the ways in their order give needs in another one.
        asks = ("some", atom(0, 0, 1), TRUE, atom(0, 1, 2), FALSE)
        both_ways = ((0, 0), ((0, (0, 1)), (0, (1, 0))))
        told = dict(strikes(ARROWS, (asks, ("all", sort(0, 0), both(neg(atom(1, 0)), neg(atom(0, 0, 0)))))))
        self.assertEqual(told, {((0, 0), ((0, (0, 1)),)): (0, (1,)), both_ways: (0, (0,))})

    def test_order_within_a_round(self):
        forms = (next_with(1, 3), next_with(2, 3), ("all", atom(3, 0), FALSE))
        told = [kind for kind, _ in strikes(CHAIN, forms)]
        self.assertEqual(told, sorted(told))
        self.assertGreater(len(told), 3)

    def test_exact(self):
        # The one kind with b has a guard beside it, which its head does not use: a sort alone must be met alone.
        language = (1, (("r", (0, 0)), ("b", (0,))))
        forms = (
            ("some", sort(0, 0), TRUE, sort(0, 1), atom(1, 1)),
            ("all", atom(1, 0), TRUE),
        )
        self.assertEqual(strikes(language, forms), ())
        point, pair = ((0,), ((1, (0,)),)), ((0, 0), ((0, (0, 1)), (1, (0,))))
        self.assertIs(is_table(language, forms, (point,)), True)
        self.assertIs(is_table(language, forms, (pair,)), False)
        self.assertIs(is_table(language, forms, (point, pair)), True)
        self.assertIs(is_table(language, forms, (ONE, pair)), False)

    def test_made(self):
        struck, rounds = 0, 0
        for seed in range(150):
            for language in (SMALL, TWO):
                forms = made_book(language, seed, 4)[1]
                told, left = slow_strikes(language, forms)
                self.assertEqual(strikes(language, forms), told)
                self.assertEqual(greatest_table(language, forms), left)
                self.assertTrue(is_plain_value((strikes(language, forms), greatest_table(language, forms))))
                self.assertEqual(strikes(language, forms), strikes(language, forms))
                struck += bool(told)
                kinds = [kind for kind, _ in told]
                rounds += kinds != sorted(kinds)
        self.assertGreater(struck, 40)
        self.assertGreater(rounds, 0)

    def test_made_with_three_sorts(self):
        language = (3, (("d", (2, 1, 0)), ("e", (0, 0)), ("p", (1,))))
        for seed in range(60):
            forms = tuple(Maker(language, 90 * seed + number).form() for number in range(4))
            self.assertEqual((strikes(language, forms), greatest_table(language, forms)), slow_strikes(language, forms))


class IsTableTest(unittest.TestCase):
    def test_closed_tables(self):
        forms = (ONWARD, NO_TURN)
        point, pair = ((0,), ((1, (0,)),)), ((0, 0), ((0, (0, 1)), (1, (0,)), (1, (1,))))
        self.assertIs(is_table(ARROWS, forms, ()), True)
        self.assertIs(is_table(ARROWS, forms, (ONE,)), True)
        self.assertIs(is_table(ARROWS, forms, (point,)), False)
        self.assertIs(is_table(ARROWS, forms, (pair,)), True)
        self.assertIs(is_table(language=ARROWS, forms=forms, kinds=(ONE, point, pair)), True)
        self.assertIs(is_table(ARROWS, forms, greatest_table(ARROWS, forms)), True)

    def test_unlawful_and_unguarded_kinds(self):
        turned = ((0, 0), ((0, (0, 1)), (0, (1, 0))))
        self.assertIs(is_table(ARROWS, (NO_TURN,), (turned,)), False)
        self.assertIs(is_table(ARROWS, (NO_TURN,), (ONE, turned)), False)
        self.assertIs(is_table(ARROWS, (), (ONE, turned)), True)
        self.assertIs(is_table(ARROWS, (), (ONE, ((0, 0), ()))), False)
        self.assertIs(is_table(ARROWS, (), (((0, 0), ((0, (0, 0)), (0, (1, 1)))),)), False)

    def test_no_bound(self):
        eleven = (1, tuple(("n" + letter, (0,)) for letter in "abcdefghijk"))
        kinds = [((0,), ())] + [((0,), ((number, (0,)),)) for number in range(11)]
        self.assertIs(is_table(eleven, (), tuple(kinds)), True)
        onward = ("some", atom(0, 0), TRUE, sort(0, 1), atom(10, 1))
        self.assertIs(is_table(eleven, (onward,), tuple(kinds[:-1])), False)
        self.assertIs(is_table(eleven, (onward,), tuple(kinds)), True)

    def test_more_kinds_than_stand_on_a_sheet(self):
        language = (1, tuple(("n" + letter, (0,)) for letter in "abcdefghijkl"))
        kinds = tuple(sorted(((0,), tuple((bit, (0,)) for bit in range(12) if number >> bit & 1))
                             for number in range(4096)))
        onward = ("some", atom(11, 0), TRUE, sort(0, 1), atom(0, 1))
        self.assertIs(is_table(language, (onward,), kinds), True)
        self.assertIs(is_table(language, (onward,), tuple(kind for kind in kinds if (0, (0,)) not in kind[1])), False)

    def test_all_parts_of_made_tables(self):
        seen = [0, 0]
        for seed in range(120):
            forms = made_book(SMALL, seed, 3)[1]
            kinds = greatest_table(SMALL, forms)
            for place in range(len(kinds)):
                part = kinds[:place] + kinds[place + 1:]
                told = all(
                    any(slow_ways(forms, need, kind, other, True) for other in part)
                    for kind in part for need in slow_needs(forms, kind)
                )
                self.assertIs(is_table(SMALL, forms, part), told)
                seen[told] += 1
        self.assertGreater(min(seen), 10)


class OnceTest(unittest.TestCase):
    def test_missing(self):
        p, two = ("once", atom(1, 0), TRUE), ("once", atom(0, 1, 0), both(atom(1, 0), neg(atom(1, 1))))
        never = ("once", sort(0, 0), FALSE)
        self.assertEqual(missing_once(ARROWS, (p, two)), ())
        self.assertEqual(missing_once(language=ARROWS, forms=(p, never, two, never)), (1, 3))
        self.assertEqual(missing_once(ARROWS, (ONWARD, NO_TURN, NO_NEXT_WITH_P, p, two, ("once", sort(0, 0), TRUE))), (3, 4))
        self.assertEqual(missing_once(ARROWS, ()), ())
        self.assertEqual(missing_once((1, ()), (("all", sort(0, 3), FALSE), ("once", sort(0, 3), TRUE))), (1,))

    def test_served_with_all_slots(self):
        # A loop is the only thing that serves r(0, 0) with all slots; a pair with a loop does so only without.
        no_lone_loop = ("all", atom(0, 0, 0), FALSE)
        self.assertEqual(missing_once(ARROWS, (("once", atom(0, 0, 0), TRUE), no_lone_loop)), (0,))
        self.assertEqual(missing_once(ARROWS, (("once", atom(0, 0, 1), ("equal", 0, 1)),)), ())

    def test_always_and_ever_where_one_is_missing(self):
        forms = (("once", atom(1, 0), FALSE),)
        self.assertIs(always(ARROWS, forms, sort(0, 0), FALSE), True)
        self.assertIs(ever(ARROWS, forms, sort(0, 0), TRUE), False)
        self.assertIs(always(ARROWS, (), sort(0, 0), FALSE), False)
        self.assertIs(ever(ARROWS, (), sort(0, 0), TRUE), True)

    def test_made(self):
        for seed in range(150):
            forms = tuple(Maker(TWO, 40 * seed + number).form() for number in range(4))
            self.assertEqual(missing_once(TWO, forms), slow_missing(forms, slow_strikes(TWO, forms)[1]))


class AlwaysTest(unittest.TestCase):
    def test_guards(self):
        forms = (NO_TURN,)
        self.assertIs(always(language=ARROWS, forms=forms, guard=atom(0, 5, 2), c=neg(atom(0, 2, 5))), True)
        self.assertIs(ever(language=ARROWS, forms=forms, guard=atom(0, 5, 2), c=atom(0, 2, 5)), False)
        self.assertIs(ever(ARROWS, forms, atom(0, 5, 2), both(atom(1, 5), neg(atom(1, 2)))), True)
        self.assertIs(ever(ARROWS, forms, atom(0, 5, 5), TRUE), False)
        self.assertIs(always(ARROWS, forms, sort(0, 9), either(atom(1, 9), atom(0, 9, 9))), False)
        self.assertIs(always(ARROWS, forms, sort(0, 9), TRUE), True)

    def test_large_conditions(self):
        # 12 levels, 11 of them denials, so the denial of the condition has 13
        self.assertIs(ever(ARROWS, (), sort(0, 0), bend(12, atom(1, 0))), True)
        self.assertIs(ever(ARROWS, (("all", sort(0, 0), atom(1, 0)),), sort(0, 0), bend(12, atom(1, 0))), False)
        self.assertIs(ever(ARROWS, (), sort(0, 0), broad(200, atom(1, 0))), True)
        self.assertIs(ever(ARROWS, (("all", sort(0, 0), neg(atom(1, 0))),), sort(0, 0), broad(200, atom(1, 0))), False)
        self.assertIs(always(ARROWS, (), sort(0, 0), broad(200, atom(1, 0))), False)

    def test_small_stores_never_differ(self):
        guard = atom(0, 0, 1)
        for seed in range(60):
            book = made_book(SMALL, seed, 2, 0, 0)
            condition = Maker(SMALL, seed).formula({0: 0, 1: 0}, 2, False)
            kept = [store for store in all_stores(SMALL, 2) if slow_keeps(book, store, ())]
            if kept:
                self.assertEqual(missing_once(SMALL, book[1]), ())
            for store in kept:
                for number, things in store[1]:
                    if number == 0:
                        true = slow_true((0,) * store[0][0], set(store[1]), condition, dict(enumerate(things)))
                        self.assertIs(true and not ever(SMALL, book[1], guard, condition), False)
                        self.assertIs(not true and always(SMALL, book[1], guard, condition), False)


TEN = (1, (("r", (0, 0)), ("a", (0,)), ("b", (0,)), ("c", (0,))))
ELEVEN = (1, tuple(("n" + letter, (0,)) for letter in "abcdefghijk"))
WIDE = (3, tuple(("n" + letter, (0,)) for letter in "abcdefghi") + (("x", (0, 1)), ("y", (0, 2))))


def wide_forms(many):
    """Forms that leave 1026 + many kinds of the language WIDE."""
    return (("all", atom(10, 0, 1), just(many, [atom(number, 0) for number in range(9)])),)


class TooManyTest(unittest.TestCase):
    def too_many(self, language, forms):
        for call in (greatest_table, strikes, missing_once):
            with self.assertRaises(TooMany):
                call(language, forms)
        for call in (always, ever):
            for guard, c in ((sort(0, 0), TRUE), (None, None), ((), "x")):
                with self.assertRaises(TooMany):
                    call(language, forms, guard, c)

    def test_ten_and_eleven_atoms(self):
        self.assertEqual(len(greatest_table(TEN, ())), 408)
        self.assertIs(ever(TEN, (), sort(0, 0), TRUE), True)
        self.too_many(ELEVEN, ())
        self.too_many(ELEVEN, (("all", sort(0, 0), FALSE),))
        self.too_many((1, (("t", (0, 0, 0)),)), (("once", sort(0, 0), FALSE),))

    def test_1500_kinds_and_more(self):
        forms = wide_forms(474)
        self.assertEqual(len(greatest_table(WIDE, forms)), 1500)
        self.assertEqual(strikes(WIDE, forms), ())
        self.assertEqual(missing_once(WIDE, forms + (("once", atom(0, 0), TRUE),)), ())
        self.assertIs(always(WIDE, forms, sort(0, 0), atom(0, 0)), False)
        self.too_many(WIDE, wide_forms(475))

    def test_many_kinds_with_needs(self):
        onward = tuple(("some", atom(number, 0), TRUE, atom(9, 0, 1), atom(number, 0)) for number in range(9))
        told = strikes(WIDE, wide_forms(474) + onward)
        self.assertEqual(told, ())
        barred = ("all", atom(9, 0, 1), neg(atom(3, 0)))
        told = strikes(WIDE, wide_forms(474) + onward + (barred,))
        # What shares the slot of the sort 0 has n3 there, too, so each need of a kind with n3 fails.
        self.assertTrue(told)
        for (_, atoms), need in told:
            self.assertIn((3, (0,)), atoms)
            self.assertEqual(need, (1 + min(number for number, row in atoms if row == (0,)), (0,)))


if __name__ == "__main__":
    unittest.main()
