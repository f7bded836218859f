"""[21] to [23]: wide needs, ranks and starting kinds."""

import random
import unittest
from unittest import mock

from bagkinds.errors import TooMany
from bagkinds.kinds import canonical
from bagkinds.needs import meeting, needs
from bagkinds.ranks import below_pair, is_wide, rank_of, starters
from bagkinds.tables import greatest_table
from tests.helpers import ARROWS, TRUE, atom, is_plain_value, neg, sort
from tests.slow import SMALL, TWO, made_book, slow_needs, slow_ways
from tests.slow_finite import BENT, SlowRanks, bent_book, is_wide_need, shared_of, slow_below, slow_starters
from tests.test_tables import ELEVEN, WIDE, wide_forms

# r(0, 0), t(0, 1, 0), u(1,): t(x, y, z) asks for t(z, y, w)
ONWARD = ("some", atom(1, 0, 1, 2), TRUE, atom(1, 2, 1, 3), TRUE)
NO_TURN = ("all", atom(1, 0, 1, 2), neg(atom(1, 2, 1, 0)))
ROW = ((0, 0, 1), ((1, (0, 2, 1)),))
TURNED = ((0, 0, 1), ((1, (0, 2, 1)), (1, (1, 2, 0))))


# a, b, c, d: t(x, y, z) of one asks for t(z, y, w) of the next
CHAIN = (2, tuple((letter, (0, 1, 0)) for letter in "abcd"))
CHAIN_FORMS = tuple(("some", atom(number, 0, 1, 2), TRUE, atom(number + 1, 2, 1, 3), TRUE) for number in range(3))
CHAIN_ROWS = tuple(((0, 0, 1), ((number, (0, 2, 1)),)) for number in range(4))


class IsWideTest(unittest.TestCase):
    def test_needs(self):
        self.assertIs(is_wide((3, ())), False)
        self.assertIs(is_wide(need=(3, (1,))), False)
        self.assertIs(is_wide((3, (1, 1))), False)
        self.assertIs(is_wide((0, (0, 1))), True)
        self.assertIs(is_wide((0, (1, 0, 1))), True)
        self.assertIs(is_wide((0, (2, 2, 2, 2))), False)


class BelowPairTest(unittest.TestCase):
    def test_the_need_itself_is_settled(self):
        # r(x, y) asks for t(x, z, y)
        form = ("some", atom(0, 0, 1), TRUE, atom(1, 0, 2, 1), TRUE)
        line, other = ((0, 0), ((0, (0, 1)),)), ((0, 0, 1), ((0, (0, 1)), (1, (0, 2, 1))))
        self.assertEqual(below_pair((form,), line, (0, (0, 1)), other, (0, 1, 2)), (other, ((0, (0, 1)),)))
        told = below_pair(forms=(form,), kind=line, need=(0, (0, 1)), other=other, way=(0, 1, 2))
        self.assertEqual(told, (other, ((0, (0, 1)),)))

    def test_only_needs_of_the_other_kind(self):
        # t(x, y, z) asks for t(z, y, w): the need of the row is none of what is below it, where only w asks.
        self.assertEqual(needs((ONWARD,), ROW), ((0, (2, 1)),))
        # the shared variables are 1 and 2: y, z
        below = meeting((ONWARD,), (0, (2, 1)), ROW, ROW, False)
        self.assertEqual(below_pair((ONWARD,), ROW, (0, (2, 1)), ROW, below), (ROW, ()))

    def test_slots_of_the_other_kind(self):
        # The need lies on the slots (1, 2) above and on (0, 1) below.
        kind, other = ((0, 0, 1), ((1, (0, 2, 1)), (1, (1, 2, 1)))), ((0, 1), ((1, (0, 1, 0)),))
        self.assertEqual(needs((ONWARD,), kind), ((0, (2, 1)),))
        self.assertEqual(slow_ways((ONWARD,), (0, (2, 1)), kind, other, False), [(1, 0, 0)])
        self.assertEqual(needs((ONWARD,), other), ((0, (1, 0)),))
        self.assertEqual(below_pair((ONWARD,), kind, (0, (2, 1)), other, (1, 0, 0)), (other, ((0, (1, 0)),)))

    def test_only_wide_needs_among_the_slots(self):
        narrow = ("some", sort(0, 0), TRUE, atom(0, 0, 1), TRUE)
        wide = ("some", atom(0, 0, 1), TRUE, atom(1, 0, 2, 1), TRUE)
        line = ((0, 0), ((0, (0, 1)), (0, (1, 0))))
        other = ((0, 0, 1), ((0, (0, 1)), (0, (1, 0)), (1, (0, 2, 1))))
        forms = (narrow, wide)
        self.assertEqual(needs(forms, line), ((0, (0,)), (0, (1,)), (1, (0, 1)), (1, (1, 0))))
        told = below_pair(forms, line, (1, (0, 1)), other, (0, 1, 2))
        self.assertEqual(told, (other, ((1, (0, 1)), (1, (1, 0)))))
        self.assertEqual(below_pair(forms, line, (0, (0,)), other, (0, 1)), (other, ()))
        self.assertEqual(below_pair(forms, line, (1, (1, 0)), other, (1, 0, 2)), told)

    def test_a_new_variable_on_a_shared_slot(self):
        # The new variable w of t(w, y, x) is on the slot of x.
        forms = (("some", atom(1, 0, 1, 2), TRUE, atom(1, 3, 1, 2), TRUE),)
        kind = ((0, 1), ((1, (0, 1, 0)),))
        self.assertEqual(slow_ways(forms, (0, (1, 0)), kind, kind, False), [(1, 0, 0)])
        self.assertEqual(below_pair(forms, kind, (0, (1, 0)), kind, (1, 0, 0)), (kind, ((0, (1, 0)),)))

    def test_made(self):
        seen = 0
        for seed in range(120):
            book = bent_book(seed)
            kinds = greatest_table(book[0], book[1])[-8:]
            for kind in kinds:
                for need in slow_needs(book[1], kind):
                    for other in kinds[:4]:
                        for way in slow_ways(book[1], need, kind, other, False):
                            told = below_pair(book[1], kind, need, other, way)
                            self.assertEqual(told, slow_below(book[1], kind, need, other, way))
                            self.assertTrue(is_plain_value(told))
                            seen += len(told[1]) > 0
        self.assertGreater(seen, 50)


class RankTest(unittest.TestCase):
    def test_no_wide_need(self):
        form = ("some", atom(1, 0), TRUE, atom(0, 0, 1), atom(1, 1))
        self.assertEqual(rank_of(ARROWS, (form,), (), (((0,), ((1, (0,)),)), ())), 0)
        self.assertEqual(rank_of(language=ARROWS, forms=(), kinds=(), pair=(((0, 0), ((0, (0, 1)),)), ())), 0)

    def test_settled_and_at_home(self):
        self.assertIsNone(rank_of(BENT, (ONWARD,), (), (ROW, ())))
        self.assertEqual(rank_of(BENT, (ONWARD,), (), (ROW, ((0, (2, 1)),))), 0)
        # The other way back is at home, with w on the slot of x.
        self.assertEqual(rank_of(BENT, (ONWARD,), (), (TURNED, ())), 0)

    def test_needs_that_go_round(self):
        self.assertEqual(rank_of(BENT, (ONWARD,), (ROW, TURNED), (ROW, ())), 1)
        self.assertIsNone(rank_of(BENT, (ONWARD,), (ROW,), (ROW, ())))
        kinds = greatest_table(BENT, (ONWARD, NO_TURN))
        self.assertIn(ROW, kinds)
        self.assertIsNone(rank_of(BENT, (ONWARD, NO_TURN), kinds, (ROW, ())))
        self.assertEqual(rank_of(BENT, (ONWARD, NO_TURN), kinds, (ROW, ((0, (2, 1)),))), 0)

    def test_higher_ranks(self):
        # a chain: what has an a asks for a b, this for a c
        language, forms, rows = CHAIN, CHAIN_FORMS[:2], CHAIN_ROWS[:3]
        self.assertEqual([rank_of(language, forms, tuple(rows), (row, ())) for row in rows], [2, 1, 0])
        self.assertEqual([rank_of(language, forms, tuple(rows[:2]), (row, ())) for row in rows], [None, None, 0])
        self.assertEqual([rank_of(language, forms, tuple(rows[1:]), (row, ())) for row in rows], [2, 1, 0])
        self.assertEqual(rank_of(language, forms, (rows[2],), (rows[0], ((0, (2, 1)),))), 0)

    def test_the_best_of_several(self):
        # the need of an a is met by a b that asks for more, or by a b with p that does not
        language = (2, (("a", (0, 1, 0)), ("b", (0, 1, 0)), ("c", (0, 1, 0)), ("p", (0,))))
        forms = (("some", atom(0, 0, 1, 2), TRUE, atom(1, 2, 1, 3), TRUE),
                 ("some", atom(1, 0, 1, 2), neg(atom(3, 2)), atom(2, 2, 1, 3), TRUE))
        a, b, c = [((0, 0, 1), ((number, (0, 2, 1)),)) for number in range(3)]
        free = ((0, 0, 1), ((1, (0, 2, 1)), (3, (1,))))
        self.assertEqual(rank_of(language, forms, (a, b, c), (a, ())), 2)
        self.assertEqual(rank_of(language, forms, (a, b, c, free), (a, ())), 1)
        self.assertEqual(rank_of(language, forms, (free,), (a, ())), 1)
        self.assertIsNone(rank_of(language, forms, (b,), (a, ())))

    def test_ways_that_are_not_the_least(self):
        language = (2, (("r", (0, 0)), ("g", (0, 1)), ("h", (0, 1, 0)), ("m", (0, 1, 0)), ("k", (0, 1, 0))))
        forms = (("some", atom(1, 0, 1), TRUE, atom(2, 0, 1, 2), TRUE), ("some", atom(3, 0, 1, 2), TRUE, atom(4, 0, 1, 3), TRUE))
        kind = ((0, 0, 1), ((1, (0, 2)), (3, (0, 2, 1))))
        last = ((0, 0, 1), ((1, (0, 2)), (4, (0, 2, 1))))
        self.assertEqual(needs(forms, kind), ((0, (0, 2)), (1, (0, 2))))
        for row, settled_by_the_least in (((0, 2, 1), True), ((1, 2, 0), False)):
            # It has h there and back, so there are two ways; the other form asks on one of them alone.
            other = ((0, 0, 1), ((0, (0, 1)), (1, (0, 2)), (1, (1, 2)), (2, (0, 2, 1)), (2, (1, 2, 0)), (3, row)))
            self.assertEqual(canonical(language, *other)[0], other)
            pairs = [below_pair(forms, kind, (0, (0, 2)), other, way) for way in ((0, 2, 1), (1, 2, 0))]
            ranks = [rank_of(language, forms, (), pair) for pair in pairs]
            self.assertEqual(ranks, [0, None] if settled_by_the_least else [None, 0])
            self.assertEqual(rank_of(language, forms, (other, last), (kind, ())), 1)
            self.assertIsNone(rank_of(language, forms, (other,), (kind, ())))

    def test_kinds_that_are_not_guarded(self):
        # Two things without an atom of both, which share a third: x with t(x, y, x) asks for another w with t(w, y, x).
        forms = (("some", atom(1, 0, 1, 0), TRUE, atom(1, 2, 1, 0), neg(("equal", 2, 0))),)
        loose = ((0, 0, 1), ((1, (0, 2, 0)), (1, (1, 2, 1))))
        self.assertEqual(slow_needs(forms, loose), ((0, (0, 2)), (0, (1, 2))))
        self.assertIsNone(rank_of(BENT, forms, (loose,), (loose, ())))
        meets = canonical(BENT, (0, 0, 1), ((1, (0, 2, 0)), (1, (1, 2, 0))))[0]
        self.assertEqual(rank_of(BENT, forms, (loose, meets), (loose, ())), 1)
        # met by a kind that has a further slot, and is not guarded
        further = canonical(BENT, (0, 0, 0, 1), ((1, (0, 3, 0)), (1, (1, 3, 0))))[0]
        self.assertEqual(rank_of(BENT, forms, (further,), (loose, ())), 1)

    def test_no_bound_by_sizes(self):
        language = (2, tuple(("q" + letter, (0, 0)) for letter in "abcd") + (("t", (0, 1, 0)),))
        form = ("some", atom(4, 0, 1, 2), TRUE, atom(4, 2, 1, 3), TRUE)
        row = ((0, 0, 1), ((4, (0, 2, 1)),))
        self.assertIsNone(rank_of(language, (form,), (row,), (row, ())))

    def test_made(self):
        seen = {}
        for seed in range(400):
            book = bent_book(seed)
            language, forms = book[:2]
            chance = random.Random(seed)
            kinds = greatest_table(language, forms)
            if not kinds or not any(form[0] == "some" and len(shared_of(form)) > 1 for form in forms):
                continue
            kinds = tuple(sorted(chance.sample(kinds, min(len(kinds), 20))))
            ranks = SlowRanks(forms, kinds)
            for kind in chance.sample(kinds, min(len(kinds), 3)):
                settled = tuple(need for need in slow_needs(forms, kind) if is_wide_need(need) and chance.random() < 0.2)
                told = rank_of(language, forms, kinds, (kind, settled))
                self.assertEqual(told, ranks.rank((kind, settled)))
                seen[told] = seen.get(told, 0) + 1
        self.assertGreater(seen[None], 20)
        self.assertGreater(seen[0], 20)
        self.assertGreater(seen[1], 10)
        self.assertGreater(seen[2], 0)


class StartersTest(unittest.TestCase):
    def test_one_shared_variable(self):
        for seed in range(80):
            book = made_book((SMALL, TWO)[seed % 2], seed)
            if all(form[0] != "some" or len(shared_of(form)) < 2 for form in book[1]):
                kinds = greatest_table(book[0], book[1])
                self.assertEqual(starters(book[0], book[1]), (kinds, kinds))

    def test_needs_that_go_round(self):
        kinds, starting = starters(language=BENT, forms=(ONWARD, NO_TURN))
        self.assertEqual(kinds, greatest_table(BENT, (ONWARD, NO_TURN)))
        self.assertNotIn(ROW, starting)
        self.assertIn(((0, 0), ((0, (0, 1)),)), starting)
        self.assertIn(ROW, starters(BENT, (ONWARD,))[1])

    def test_struck_for_narrow_needs(self):
        # Each thing with u needs a t, which only goes round, so kinds with u are struck, but for those that ask no more.
        asks = ("some", atom(2, 0), TRUE, atom(1, 1, 0, 2), neg(("equal", 1, 2)))
        forms = (ONWARD, NO_TURN, asks)
        kinds, starting = starters(BENT, forms)
        table = greatest_table(BENT, forms)
        self.assertIn(((1,), ((2, (0,)),)), table)
        self.assertNotIn(((1,), ((2, (0,)),)), kinds)
        self.assertIn(((1,), ()), kinds)
        self.assertEqual((kinds, starting), slow_starters(forms, table))
        self.assertTrue(set(starting) < set(kinds) < set(table))

    def test_made(self):
        seen = {}
        for seed in range(500):
            language, forms = bent_book(seed)[:2]
            table = greatest_table(language, forms)
            if len(table) > 40 or not any(form[0] == "some" and len(shared_of(form)) > 1 for form in forms):
                continue
            told = starters(language, forms)
            self.assertEqual(told, slow_starters(forms, table))
            self.assertTrue(is_plain_value(told))
            key = (len(told[0]) < len(table), len(told[1]) < len(told[0]))
            seen[key] = seen.get(key, 0) + 1
        self.assertEqual(len(seen), 4)
        self.assertGreater(min(seen.values()), 2)

    def test_too_many(self):
        for language, forms in ((ELEVEN, ()), (WIDE, wide_forms(475))):
            with self.assertRaises(TooMany):
                starters(language, forms)
        self.assertEqual(len(starters(WIDE, wide_forms(474))[1]), 1500)

    def test_bound_of_pairs(self):
        """Whether too many pairs can be come to is asked of each pair alone, and only when there are many in all."""
        chains = [SlowRanks(forms, kinds) for forms, kinds in ((CHAIN_FORMS, CHAIN_ROWS),)]
        self.assertEqual([ranks.rank((CHAIN_ROWS[0], ())) for ranks in chains], [3])
        for most, right in ((3, True), (2, False)):
            with mock.patch("bagkinds.ranks.MANY_PAIRS", 0), mock.patch("bagkinds.ranks.MOST_PAIRS", most):
                self.assertEqual(rank_of(CHAIN, CHAIN_FORMS, CHAIN_ROWS, (CHAIN_ROWS[1], ())), 2)
                if right:
                    self.assertEqual(rank_of(CHAIN, CHAIN_FORMS, CHAIN_ROWS, (CHAIN_ROWS[0], ())), 3)
                else:
                    with self.assertRaises(TooMany):
                        rank_of(CHAIN, CHAIN_FORMS, CHAIN_ROWS, (CHAIN_ROWS[0], ()))
        for seed in range(60):
            language, forms = bent_book(seed)[:2]
            told = starters(language, forms)
            with mock.patch("bagkinds.ranks.MANY_PAIRS", 0):
                self.assertEqual(starters(language, forms), told)

    def test_many_kinds(self):
        language = (2, (("t", (0, 1, 0)), ("s", (0, 1)), ("p", (0,)), ("q", (0,))))
        forms = tuple(("some", atom(0, 0, 1, 2), c, atom(0, 2, 1, 3), TRUE) for c in (TRUE, atom(2, 0), atom(3, 2), atom(1, 0, 1)))
        kinds = greatest_table(language, forms)
        self.assertGreater(len(kinds), 200)
        self.assertEqual(starters(language, forms), (kinds, kinds))


if __name__ == "__main__":
    unittest.main()
