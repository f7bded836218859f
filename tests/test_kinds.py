"""[10] to [12], and [3] as far as all_kinds."""

import itertools
import random
import unittest

from bagkinds.errors import TooMany
from bagkinds.forms import guarded_sets
from bagkinds.kinds import (
    all_kinds, canonical, cut, guarded_slots, is_guarded, is_lawful, kind_breaks, kind_of, row_atoms, sort_rows,
)
from tests.helpers import (
    ARROWS, FALSE, MIXED, TRUE, Maker, atom, both, either, is_plain_value, neg, slow_canonical, slow_kinds,
    slow_row_atoms, slow_standing, sort, store_sorts,
)

ONE = (1, (("r", (0, 0)),))
SMALL = (2, (("r", (0, 0)), ("m", (1, 0)), ("u", (1,))))
# the forms of the example in [16]
ONWARD = ("some", atom(1, 0), TRUE, atom(0, 0, 1), atom(1, 1))
NO_TURN = ("all", atom(0, 0, 1), neg(atom(0, 1, 0)))


class RowAtomsTest(unittest.TestCase):
    def test_rows(self):
        self.assertEqual(row_atoms(ONE, (0,)), ((0, (0, 0)),))
        self.assertEqual(row_atoms(language=ONE, sorts=(0, 0)), tuple((0, pair) for pair in ((0, 0), (0, 1), (1, 0), (1, 1))))
        self.assertEqual(row_atoms(SMALL, (1, 0)), ((0, (1, 1)), (1, (0, 1)), (2, (0,))))
        self.assertEqual(row_atoms(SMALL, (0, 1)), ((0, (0, 0)), (1, (1, 0)), (2, (1,))))
        self.assertEqual(row_atoms((1, ()), (0, 0)), ())
        self.assertEqual(row_atoms((4, (("d", (3, 2, 1, 0)),)), (0, 1, 2, 3)), ((0, (3, 2, 1, 0)),))

    def test_all_orders(self):
        for size in range(1, 5):
            for sorts in itertools.product(range(3), repeat=size):
                self.assertEqual(row_atoms(MIXED, sorts), slow_row_atoms(MIXED, sorts))

    def test_most(self):
        wide = (1, tuple(("n" + letter, (0,) * 4) for letter in "abcdefghijklmnop"))
        self.assertEqual(len(row_atoms(wide, (0,) * 4)), 4096)


class CanonicalTest(unittest.TestCase):
    def test_example_of_the_document(self):
        kind = ((0, 0), ((0, (0, 1)),))
        self.assertEqual(canonical(ONE, (0, 0), ((0, (1, 0)),)), (kind, (1, 0)))
        self.assertEqual(canonical(language=ONE, sorts=(0, 0), atoms=((0, (0, 1)),)), (kind, (0, 1)))

    def test_sorts_in_any_order(self):
        told = canonical(SMALL, (1, 0, 1), ((2, (2,)), (1, (0, 1)), (0, (1, 1))))
        self.assertEqual(told, (((0, 1, 1), ((0, (0, 0)), (1, (1, 0)), (2, (2,)))), (1, 0, 2)))

    def test_least_places(self):
        self.assertEqual(canonical(ONE, (0, 0), ())[1], (0, 1))
        self.assertEqual(canonical(ONE, (0, 0, 0), ((0, (2, 2)),)), (((0, 0, 0), ((0, (0, 0)),)), (1, 2, 0)))
        self.assertEqual(canonical(ONE, (0,), ((0, (0, 0)),)), (((0,), ((0, (0, 0)),)), (0,)))
        self.assertEqual(canonical(SMALL, (1, 1, 0, 0), ())[1], (2, 3, 0, 1))

    def test_made(self):
        chance = random.Random(1)
        for _ in range(400):
            sorts = tuple(chance.randrange(3) for _ in range(chance.randint(1, 4)))
            possible = slow_row_atoms(MIXED, sorts)
            atoms = chance.sample(possible, chance.randint(0, min(7, len(possible))))
            told = canonical(MIXED, sorts, tuple(atoms))
            self.assertEqual(told, slow_canonical(sorts, atoms))
            self.assertTrue(is_plain_value(told))
            kind, places = told
            self.assertEqual(canonical(MIXED, kind[0], kind[1]), (kind, slow_canonical(*kind)[1]))


class KindOfTest(unittest.TestCase):
    store = ((2, 2), ((0, (0, 1)), (0, (1, 1)), (1, (2, 1)), (1, (3, 0)), (2, (3,))))

    def test_kinds(self):
        self.assertEqual(kind_of(SMALL, self.store, (1,)), ((0,), ((0, (0, 0)),)))
        self.assertEqual(kind_of(language=SMALL, store=self.store, things=(0, 1)), ((0, 0), ((0, (0, 0)), (0, (1, 0)))))
        self.assertEqual(kind_of(SMALL, self.store, (0, 3)), ((0, 1), ((1, (1, 0)), (2, (1,)))))
        self.assertEqual(kind_of(SMALL, self.store, (2, 3)), ((1, 1), ((2, (0,)),)))
        whole = kind_of(SMALL, self.store, (0, 1, 2, 3))
        self.assertEqual(whole, slow_canonical((0, 0, 1, 1), self.store[1])[0])

    def test_made(self):
        chance = random.Random(2)
        for seed in range(150):
            store = Maker(MIXED, seed).store(3)
            sorts = store_sorts(store)
            for size in range(1, min(4, len(sorts)) + 1):
                things = tuple(sorted(chance.sample(range(len(sorts)), size)))
                inside = [(number, tuple(things.index(thing) for thing in row)) for number, row in store[1]
                          if set(row) <= set(things)]
                kind = kind_of(MIXED, store, things)
                self.assertEqual(kind, slow_canonical(tuple(sorts[thing] for thing in things), inside)[0])

    def test_large_store(self):
        store = ((4000,), tuple((0, (thing, thing + 1)) for thing in range(3999)))
        self.assertEqual({kind_of(ONE, store, things) for things in guarded_sets(store)},
                         {((0,), ()), ((0, 0), ((0, (0, 1)),))})


class CutTest(unittest.TestCase):
    kind = ((0, 0, 1), ((0, (0, 1)), (0, (1, 1)), (1, (2, 1)), (2, (2,))))

    def test_cut(self):
        self.assertEqual(cut(SMALL, self.kind, (0,)), ((0,), ()))
        self.assertEqual(cut(language=SMALL, kind=self.kind, slots=(1,)), ((0,), ((0, (0, 0)),)))
        self.assertEqual(cut(SMALL, self.kind, (0, 1)), ((0, 0), ((0, (0, 0)), (0, (1, 0)))))
        self.assertEqual(cut(SMALL, self.kind, (1, 2)), ((0, 1), ((0, (0, 0)), (1, (1, 0)), (2, (1,)))))
        self.assertEqual(cut(SMALL, self.kind, (0, 2)), ((0, 1), ((2, (1,)),)))

    def test_whole(self):
        for kind in all_kinds(SMALL, ()):
            self.assertEqual(cut(SMALL, kind, tuple(range(len(kind[0])))), kind)

    def test_four_slots(self):
        kind = canonical(MIXED, (0, 0, 1, 2), ((5, (3, 2, 0, 3)), (0, (0, 1)), (4, (1, 0, 2))))[0]
        for size in range(1, 5):
            for slots in itertools.combinations(range(4), size):
                inside = [(number, tuple(slots.index(slot) for slot in row)) for number, row in kind[1]
                          if set(row) <= set(slots)]
                self.assertEqual(cut(MIXED, kind, slots), slow_canonical(tuple(kind[0][slot] for slot in slots), inside)[0])


class GuardedTest(unittest.TestCase):
    def test_guarded_slots(self):
        self.assertEqual(guarded_slots(((0,), ())), ((0,),))
        self.assertEqual(guarded_slots(kind=((0, 0), ())), ((0,), (1,)))
        self.assertEqual(guarded_slots(((0, 0), ((0, (0, 0)), (0, (1, 0))))), ((0,), (0, 1), (1,)))
        kind = ((0, 0, 1, 2), ((0, (1, 0)), (4, (0, 0, 2)), (5, (3, 2, 1, 3))))
        self.assertEqual(guarded_slots(kind), ((0,), (0, 1), (0, 2), (1,), (1, 2, 3), (2,), (3,)))

    def test_is_guarded(self):
        self.assertIs(is_guarded(((0,), ())), True)
        self.assertIs(is_guarded(kind=((0, 0), ())), False)
        self.assertIs(is_guarded(((0, 0), ((0, (0, 0)), (0, (1, 1))))), False)
        self.assertIs(is_guarded(((0, 0), ((0, (0, 1)),))), True)
        self.assertIs(is_guarded(((0, 0, 1), ((0, (0, 1)), (2, (0, 2)), (2, (1, 2))))), False)
        self.assertIs(is_guarded(((0, 0, 1, 2), ((5, (3, 2, 0, 3)),))), False)
        wide = ((0, 0, 0, 0), ((0, (0, 1, 2, 3)),))
        self.assertIs(is_guarded(wide), True)


class BreaksTest(unittest.TestCase):
    kind = ((0, 0), ((0, (0, 1)), (0, (1, 1)), (1, (0,))))

    def test_kind_breaks(self):
        self.assertEqual(kind_breaks(self.kind, NO_TURN), (1, 1))
        self.assertEqual(kind_breaks(kind=self.kind, form=("all", atom(0, 0, 1), FALSE)), (0, 1))
        self.assertEqual(kind_breaks(self.kind, ("all", atom(0, 1, 0), FALSE)), (1, 0))
        self.assertEqual(kind_breaks(self.kind, ("all", atom(0, 5, 5), FALSE)), (1,))
        self.assertEqual(kind_breaks(self.kind, ("all", atom(0, 0, 1), ("equal", 0, 1))), (0, 1))
        self.assertEqual(kind_breaks(self.kind, ("all", atom(0, 0, 1), neg(("equal", 0, 1)))), (1, 1))
        self.assertEqual(kind_breaks(self.kind, ("all", sort(0, 3), atom(1, 3))), (1,))
        self.assertIsNone(kind_breaks(self.kind, ("all", sort(0, 3), either(atom(1, 3), atom(0, 3, 3)))))
        self.assertIsNone(kind_breaks(self.kind, ("all", atom(1, 0), neg(atom(0, 0, 0)))))

    def test_is_lawful(self):
        self.assertIs(is_lawful((), self.kind), True)
        self.assertIs(is_lawful(forms=(ONWARD, NO_TURN), kind=self.kind), False)
        self.assertIs(is_lawful((ONWARD,), self.kind), True)
        self.assertIs(is_lawful((("once", atom(1, 0), FALSE),), self.kind), True)
        self.assertIs(is_lawful((ONWARD, NO_TURN), ((0,), ())), True)

    def test_made(self):
        broken = 0
        for seed in range(200):
            maker = Maker(MIXED, seed)
            form = maker.form(("all",))
            store = maker.store(1)
            things = tuple(range(min(4, len(store_sorts(store)))))
            if things:
                sorts, atoms = kind_of(MIXED, store, things)
                found = slow_standing(sorts, set(atoms), form[1], neg(form[2]))
                told = kind_breaks((sorts, atoms), form)
                self.assertEqual(told, min(found) if found else None)
                self.assertIs(is_lawful((ONWARD, form), (sorts, atoms)), not found)
                broken += bool(found)
        self.assertGreater(broken, 20)

    def test_four_slots(self):
        kind = ((0, 0, 0, 0), ((0, (0, 1, 2, 3)), (0, (2, 2, 2, 2))))
        self.assertEqual(kind_breaks(kind, ("all", atom(0, 9, 7, 5, 3), FALSE)), (2, 2, 2, 2))
        self.assertEqual(kind_breaks(kind, ("all", atom(0, 9, 7, 5, 3), ("equal", 3, 9))), (3, 2, 1, 0))


class SortRowsTest(unittest.TestCase):
    def test_rows(self):
        self.assertEqual(sort_rows((3, ())), ((0,), (1,), (2,)))
        self.assertEqual(sort_rows(language=ONE), ((0,), (0, 0)))
        self.assertEqual(sort_rows(SMALL), ((0,), (0, 0), (0, 1), (1,)))
        self.assertEqual(sort_rows((1, (("q", (0, 0, 0, 0)),))), ((0,), (0, 0), (0, 0, 0), (0, 0, 0, 0)))
        self.assertEqual(sort_rows((2, (("q", (1, 0, 1, 0)),))),
                         ((0,), (0, 0, 1), (0, 0, 1, 1), (0, 1), (0, 1, 1), (1,)))
        self.assertEqual(sort_rows((4, (("q", (3, 2, 1, 0)),))), ((0,), (0, 1, 2, 3), (1,), (2,), (3,)))
        self.assertEqual(sort_rows(MIXED), ((0,), (0, 0), (0, 0, 1), (0, 1), (0, 1, 2), (0, 1, 2, 2), (1,), (2,)))


class AllKindsTest(unittest.TestCase):
    def test_example_of_16(self):
        told = (
            ((0,), ()), ((0,), ((1, (0,)),)), ((0, 0), ((0, (0, 1)),)), ((0, 0), ((0, (0, 1)), (1, (0,)))),
            ((0, 0), ((0, (0, 1)), (1, (0,)), (1, (1,)))), ((0, 0), ((0, (0, 1)), (1, (1,)))),
        )
        self.assertEqual(all_kinds(ARROWS, (ONWARD, NO_TURN)), told)
        self.assertEqual(all_kinds(language=ARROWS, forms=(ONWARD, NO_TURN)), told)

    def test_all_lawful(self):
        self.assertEqual(all_kinds((2, ()), ()), (((0,), ()), ((1,), ())))
        self.assertEqual(all_kinds((2, ()), (("all", sort(0, 5), FALSE),)), (((1,), ()),))
        for language in (ONE, ARROWS, SMALL):
            self.assertEqual(all_kinds(language, ()), slow_kinds(language, ()))

    def test_made(self):
        mixed = (2, (("r", (0, 0)), ("p", (0,)), ("m", (0, 1)), ("u", (1,))))
        for seed in range(40):
            for language in (ARROWS, SMALL, mixed):
                forms = tuple(Maker(language, 10 * seed + number).form() for number in range(3))
                told = all_kinds(language, forms)
                self.assertEqual(told, slow_kinds(language, forms))
                self.assertTrue(is_plain_value(told))
                self.assertTrue(all(is_guarded(kind) and is_lawful(forms, kind) for kind in told))

    def test_three_and_four_slots(self):
        language = (3, (("d", (2, 1, 0, 0)), ("e", (1, 2)), ("p", (0,))))
        for seed in range(5):
            forms = tuple(Maker(language, seed + 7 * number).form() for number in range(2))
            self.assertEqual(all_kinds(language, forms), slow_kinds(language, forms))
        self.assertIn((0, 0, 1, 2), [sorts for sorts, _ in all_kinds(language, ())])

    def test_kinds_of_guarded_sets_of_stores(self):
        kinds = all_kinds(SMALL, ())
        for seed in range(60):
            store = Maker(SMALL, seed).store(2)
            for things in guarded_sets(store):
                self.assertIn(kind_of(SMALL, store, things), kinds)

    def test_ten_and_eleven_atoms(self):
        ten = (1, (("r", (0, 0)),) + tuple((name, (0,)) for name in ("a", "b", "c")))
        self.assertEqual(len(row_atoms(ten, (0, 0))), 10)
        self.assertEqual(len(all_kinds(ten, ())), 16 + 392)
        single = (1, tuple(("n" + letter, (0,)) for letter in "abcdefghij"))
        self.assertEqual(len(all_kinds(single, ())), 1024)
        eleven = (1, single[1] + (("x", (0,)),))
        nothing = ("all", sort(0, 0), FALSE)
        self.assertEqual(all_kinds(single, (nothing,)), ())
        for language in (eleven, (1, (("r", (0, 0, 0)),)), (1, (("r", (0, 0)), ("s", (0, 0)), ("t", (0, 0))))):
            for forms in ((), (nothing,)):
                with self.assertRaises(TooMany):
                    all_kinds(language, forms)

    def test_just_1500_kinds_and_more(self):
        unary = tuple(("n" + letter, (0,)) for letter in "abcdefghi")
        language = (3, unary + (("x", (0, 1)), ("y", (0, 2))))
        terms = [atom(number, 0) for number in range(9)]
        # One slot: 512 kinds of the sort 0, one of each other sort. Two slots: 512 with x; those with y are cut.
        for many in (0, 1, 256, 473, 474):
            self.assertEqual(len(all_kinds(language, (("all", atom(10, 0, 1), just(many, terms)),))), 1026 + many)
        for forms in ((), (("all", atom(10, 0, 1), just(475, terms)),)):
            with self.assertRaises(TooMany):
                all_kinds(language, forms)


def just(many, conditions):
    """A condition that is true with just so many of the ways in which these ones are true or false."""
    if many in (0, 2 ** len(conditions)):
        return TRUE if many else FALSE
    half = 2 ** len(conditions) // 2
    if many <= half:
        return both(neg(conditions[0]), just(many, conditions[1:]))
    return either(neg(conditions[0]), just(many - half, conditions[1:]))


if __name__ == "__main__":
    unittest.main()
