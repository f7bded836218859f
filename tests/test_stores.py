"""[6]: stores and truth."""

import unittest

from bagkinds.errors import BadStore
from bagkinds.stores import check_store, holds, thing_sorts
from tests.helpers import (
    ARROWS, FALSE, JUNK, MIXED, TRUE, Maker, atom, both, deep, either, neg, slow_free, slow_holds, sort,
    spoilt, store_sorts,
)

# things 0, 1, 2 of sort 0, 3, 4 of sort 1, none of sort 2
STORE = ((3, 2, 0), ((0, (0, 1)), (0, (1, 1)), (1, (1,)), (2, (0, 3)), (2, (0, 4)), (3, (4,)), (4, (0, 0, 3))))


class CheckStoreTest(unittest.TestCase):
    def wrong(self, value, language=MIXED):
        with self.assertRaises(BadStore):
            check_store(language, value)

    def test_right(self):
        self.assertIsNone(check_store(MIXED, STORE))
        self.assertIsNone(check_store(language=MIXED, value=((0, 0, 0), ())))
        self.assertIsNone(check_store((1, ()), ((7,), ())))
        self.assertIsNone(check_store(MIXED, ((4000, 4000, 4000), ((0, (0, 3999)), (3, (4000,)), (3, (7999,))))))

    def test_counts(self):
        self.assertIsNone(check_store(ARROWS, ((4000,), ())))
        for counts in ((4001,), (-1,), (True,), (None,), ("1",), (10 ** 59,), (), (1, 1), None, 1, "1", ((1,),)):
            self.wrong((counts, ()), ARROWS)

    def test_atoms(self):
        for atoms in (
            None, "", ((0, (0, 0)), (0, (0, 0))), ((1, (0,)), (0, (0, 0))), ((0, (1, 0)), (0, (0, 1))), ((2, (0,)),),
            ((-1, (0, 0)),), ((False, (0, 0)),), ((0, (0, False)),), ((True, (0,)),), ((0, (0, 2)),), ((0, (0, -1)),),
            ((0, (0,)),), ((0, (0, 0, 0)),), ((0, 0),), ((0,),), ((0, (0, 0), 0),), (None,), ((0, (0, None)),),
            ((0, (0, 10 ** 59)),), ((None, (0, 0)),), (0, (0, 0)),
        ):
            self.wrong(((2,), atoms), ARROWS)

    def test_sorts_of_places(self):
        self.assertIsNone(check_store(MIXED, ((1, 1, 1), ((2, (0, 1)), (5, (2, 1, 0, 2))))))
        for atoms in (((2, (1, 0)),), ((2, (0, 0)),), ((2, (0, 2)),), ((5, (2, 1, 0, 3)),), ((3, (0,)),)):
            self.wrong(((1, 1, 1), atoms))
        self.wrong(((1, 0, 1), ((3, (1,)),)))
        self.wrong(((1, 1, 1), ((-1, (2, 1, 0, 2)),)))

    def test_many_atoms(self):
        pairs = tuple((0, (first, second)) for first in range(200) for second in range(101))
        self.assertIsNone(check_store(ARROWS, ((200,), pairs[:20000])))
        self.wrong(((200,), pairs[:20001]), ARROWS)

    def test_other_forms(self):
        for value in JUNK + (deep(30), (), STORE[0], STORE + ((),), ((3, 2, 0), (), ())):
            self.wrong(value)

    def test_spoilt(self):
        for path, value in spoilt(STORE):
            shorter = len(path) == 2 and path[0] == 1 and len(value[1]) < len(STORE[1])
            if shorter:
                self.assertIsNone(check_store(MIXED, value))
            else:
                self.wrong(value)


class ThingSortsTest(unittest.TestCase):
    def test_sorts(self):
        self.assertEqual(thing_sorts(STORE), (0, 0, 0, 1, 1))
        self.assertEqual(thing_sorts(store=((0, 2, 0, 1), ())), (1, 1, 3))
        self.assertEqual(thing_sorts(((0,), ())), ())


class HoldsTest(unittest.TestCase):
    def told(self, formula, values=(), store=STORE):
        result = holds(store, formula, values)
        self.assertIs(type(result), bool)
        self.assertEqual(result, slow_holds(store, formula, values))
        return result

    def test_conditions(self):
        self.assertTrue(self.told(atom(0, 0, 1), ((0, 0), (1, 1))))
        self.assertFalse(self.told(atom(0, 1, 0), ((0, 0), (1, 1))))
        self.assertTrue(self.told(TRUE))
        self.assertFalse(self.told(FALSE))
        self.assertTrue(self.told(("equal", 5, 6), ((5, 2), (6, 2))))
        self.assertFalse(self.told(("equal", 5, 6), ((5, 2), (6, 1))))
        self.assertTrue(self.told(either(FALSE, neg(both(TRUE, FALSE)))))

    def test_by_name(self):
        self.assertIs(holds(store=STORE, formula=atom(1, 0), values=((0, 1),)), True)

    def test_quantifiers(self):
        self.assertTrue(self.told(("some", (0, 1), atom(0, 0, 1), neg(("equal", 0, 1)))))
        self.assertFalse(self.told(("all", (0, 1), atom(0, 0, 1), ("equal", 0, 1))))
        self.assertTrue(self.told(("all", (0, 1), atom(0, 0, 1), atom(1, 1))))
        self.assertTrue(self.told(("some", (0,), atom(0, 0, 0), atom(1, 0))))
        self.assertFalse(self.told(("all", (0,), sort(0, 0), ("some", (1,), atom(0, 0, 1), TRUE))))
        self.assertTrue(self.told(("some", (4,), atom(4, 0, 0, 4), TRUE), ((0, 0),)))
        self.assertFalse(self.told(("some", (4,), atom(4, 0, 0, 4), TRUE), ((0, 1),)))

    def test_sorts_without_things(self):
        self.assertTrue(self.told(("all", (0,), sort(2, 0), FALSE)))
        self.assertFalse(self.told(("some", (0,), sort(2, 0), TRUE)))
        empty = ((0, 0, 0), ())
        self.assertTrue(self.told(("all", (0, 1), atom(0, 0, 1), FALSE), (), empty))
        self.assertFalse(self.told(("some", (0,), sort(0, 0), TRUE), (), empty))
        self.assertTrue(self.told(("all", (0,), sort(0, 0), FALSE), (), empty))

    def test_values_of_other_terms_tell_nothing(self):
        formula = both(atom(1, 7), ("some", (0,), sort(1, 0), atom(3, 0)))
        self.assertTrue(self.told(formula, ((0, 0), (3, 4), (7, 1), (99, 2))))
        self.assertTrue(self.told(("some", (0,), sort(1, 0), neg(atom(3, 0))), ((0, 4),)))

    def test_made(self):
        for seed in range(300):
            maker = Maker(MIXED, seed)
            store = maker.store(2)
            formula = maker.sentence(4)
            self.told(formula, (), store)

    def test_made_with_free_terms(self):
        for seed in range(200):
            maker = Maker(MIXED, 1000 + seed)
            store = maker.store(2)
            sorts = store_sorts(store)
            if set(sorts) == {0, 1, 2}:
                scope = {maker.fresh(): number for number in (0, 1, 2, 0)}
                formula = maker.formula(scope, 4)
                values = tuple((term, maker.chance.choice([k for k, other in enumerate(sorts) if other == scope[term]]))
                               for term in scope)
                self.told(formula, values, store)
                needed = slow_free(formula)
                self.told(formula, tuple(pair for pair in values if pair[0] in needed), store)

    def test_large_store(self):
        chain = tuple((0, (thing, thing + 1)) for thing in range(3999)) + ((1, (0,)), (1, (3999,)))
        store = ((4000,), chain)
        onward = ("all", (0, 1), atom(0, 0, 1), either(atom(1, 1), ("some", (2,), atom(0, 1, 2), TRUE)))
        self.assertIs(holds(store, onward, ()), True)
        self.assertIs(holds(((4000,), chain[:-1]), onward, ()), False)
        pairs = ("all", (0,), sort(0, 0), ("some", (1,), sort(0, 1), atom(1, 1)))
        self.assertIs(holds(store, pairs, ()), True)


if __name__ == "__main__":
    unittest.main()
