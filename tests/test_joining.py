"""[39], [40], [41]: stores put together and taken apart."""

import itertools
import random
import unittest

from bagkinds.errors import TooMany
from bagkinds.forms import keeps
from bagkinds.joining import beside, part_of, renamed, times
from bagkinds.stores import check_store, thing_sorts
from tests.helpers import Maker, is_plain_value, store_sorts
from tests.slow import SMALL, TWO
from tests.slow_plain import PLAIN, SORTED, PlainMaker

EMPTY = ((0, 0), ())


def turned(atoms, places):
    return tuple(sorted((number, tuple(places[thing] for thing in things)) for number, things in atoms))


class BesideTest(unittest.TestCase):
    def test_stores(self):
        first = ((2, 1), ((0, (0, 1)), (1, (2, 0))))
        second = ((1, 2), ((1, (1, 0)), (1, (2, 0))))
        store = ((3, 3), ((0, (0, 1)), (1, (3, 0)), (1, (4, 2)), (1, (5, 2))))
        self.assertEqual(beside(first, second), (store, (0, 1, 3), (2, 4, 5)))
        self.assertEqual(beside(first=EMPTY, second=second), (second, (), (0, 1, 2)))
        self.assertEqual(beside(first, EMPTY), (first, (0, 1, 2), ()))
        self.assertEqual(beside(EMPTY, EMPTY), (EMPTY, (), ()))

    def test_made(self):
        for seed in range(200):
            language = (SMALL, TWO)[seed % 2]
            maker = Maker(language, seed)
            first, second, form = maker.store(3), maker.store(3), maker.form()
            store, left, right = beside(first, second)
            check_store(language, store)
            self.assertTrue(is_plain_value((store, left, right)))
            self.assertEqual(sorted(left + right), list(range(sum(store[0]))))
            self.assertEqual(store[1], tuple(sorted(turned(first[1], left) + turned(second[1], right))))
            sorts = thing_sorts(store)
            self.assertEqual([sorts[thing] for thing in left], store_sorts(first))
            self.assertEqual([sorts[thing] for thing in right], store_sorts(second))
            self.assertEqual((left, right), (tuple(sorted(left)), tuple(sorted(right))))
            one, two = keeps(first, form), keeps(second, form)
            if form[0] == "once" and (one or two) or form[0] != "once" and one and two:
                self.assertTrue(keeps(store, form))

    def test_bounds(self):
        self.assertEqual(beside(((3999, 4000), ()), ((1, 0), ()))[0], ((4000, 4000), ()))
        for first, second in (((4000, 0), (1, 0)), ((2000, 1), (2001, 0)), ((0, 3000), (0, 1001))):
            with self.assertRaises(TooMany):
                beside((first, ()), (second, ()))
        half = ((100,), tuple((0, pair) for pair in itertools.product(range(100), repeat=2)))
        self.assertEqual(len(beside(half, half)[0][1]), 20000)
        with self.assertRaises(TooMany):
            beside((half[0], half[1] + ((1, (0,)),)), half)


class TimesTest(unittest.TestCase):
    def test_stores(self):
        first = ((2, 1), ((0, (0, 1)), (1, (2, 0))))
        second = ((2, 1), ((0, (0, 0)), (0, (1, 0)), (1, (2, 1))))
        pairs = ((0, 0), (0, 1), (1, 0), (1, 1), (2, 2))
        store = ((4, 1), ((0, (0, 2)), (0, (1, 2)), (1, (4, 1))))
        self.assertEqual(times(first, second), (store, pairs))
        self.assertEqual(times(first=first, second=EMPTY), (EMPTY, ()))
        self.assertEqual(times(EMPTY, EMPTY), (EMPTY, ()))

    def test_two_languages(self):
        """Relations of one number with other places, or of other sorts, have no atoms in common."""
        first = ((1, 1), ((0, (0, 1)), (1, (0,)), (2, (0, 0))))
        second = ((2, 1), ((0, (2, 0)), (1, (0, 1)), (2, (1, 0)), (3, (0,))))
        self.assertEqual(times(first, second), (((2, 1), ((2, (1, 0)),)), ((0, 0), (0, 1), (1, 2))))

    def test_made(self):
        seen = 0
        for seed in range(300):
            language = (PLAIN, SORTED)[seed % 2]
            maker, plain = Maker(language, seed), PlainMaker(language, seed)
            first, second, form = maker.store(3), maker.store(2), plain.form(("all", "some", "once"))
            store, pairs = times(first, second)
            check_store(language, store)
            one, two = store_sorts(first), store_sorts(second)
            self.assertEqual(pairs, tuple(pair for number in range(language[0])
                                          for pair in itertools.product(range(len(one)), range(len(two)))
                                          if one[pair[0]] == two[pair[1]] == number))
            self.assertTrue(is_plain_value((store, pairs)))
            found = []
            for number, (_, places) in enumerate(language[1]):
                for row in itertools.product(range(len(pairs)), repeat=len(places)):
                    if all((number, tuple(pairs[thing][side] for thing in row)) in (first, second)[side][1] for side in (0, 1)):
                        found.append((number, row))
            self.assertEqual(store[1], tuple(found))
            if keeps(first, form) and keeps(second, form):
                self.assertTrue(keeps(store, form))
                seen += 1
        self.assertGreater(seen, 50)

    def test_bounds(self):
        self.assertEqual(times(((80, 4000), ()), ((50, 1), ()))[0], ((4000, 4000), ()))
        for first, second in (((4001, 0), (1, 0)), ((0, 4000), (0, 2)), ((4000, 4000), (4000, 4000)), ((1, 69), (1, 58))):
            with self.assertRaises(TooMany):
                times((first, ()), (second, ()))
        first = ((20,), tuple((0, pair) for pair in itertools.product(range(20), repeat=2)))
        second = ((10,), tuple((0, pair) for pair in itertools.product(range(10), range(5))))
        self.assertEqual(len(times(first, second)[0][1]), 20000)
        with self.assertRaises(TooMany):
            times((first[0], first[1] + ((1, (0,)),)), (second[0], second[1] + ((1, (0,)),)))
        full = ((60,), tuple((0, pair) for pair in itertools.product(range(60), repeat=2)))
        with self.assertRaises(TooMany):
            times(full, full)


class PartTest(unittest.TestCase):
    store = ((3, 2), ((0, (0, 2)), (0, (1, 1)), (1, (3, 2)), (1, (4, 0)), (2, (4,))))

    def test_parts(self):
        self.assertEqual(part_of(self.store, (0, 2, 4)), ((2, 1), ((0, (0, 1)), (1, (2, 0)), (2, (2,)))))
        self.assertEqual(part_of(store=self.store, things=()), EMPTY)
        self.assertEqual(part_of(self.store, (0, 1, 2, 3, 4)), self.store)
        self.assertEqual(part_of(part_of(self.store, (1, 2, 3, 4)), (0, 2)), ((1, 1), ((0, (0, 0)),)))
        self.assertEqual(part_of(EMPTY, ()), EMPTY)

    def test_made(self):
        for seed in range(200):
            language = (SMALL, TWO)[seed % 2]
            maker, chance = Maker(language, seed), random.Random(seed)
            store, form = maker.store(4), maker.form(("all",))
            many = sum(store[0])
            things = tuple(sorted(chance.sample(range(many), chance.randint(0, many))))
            part = part_of(store, things)
            check_store(language, part)
            self.assertTrue(is_plain_value(part))
            self.assertEqual(turned(part[1], things), tuple(pair for pair in store[1] if set(pair[1]) <= set(things)))
            self.assertEqual(store_sorts(part), [store_sorts(store)[thing] for thing in things])
            if keeps(store, form):
                self.assertTrue(keeps(part, form))


class RenamedTest(unittest.TestCase):
    def test_orders(self):
        store = ((3, 1), ((0, (0, 2)), (1, (3, 1))))
        self.assertEqual(renamed(store, (2, 0, 1, 3)), ((3, 1), ((0, (1, 0)), (1, (3, 2)))))
        self.assertEqual(renamed(store=store, order=(0, 1, 2, 3)), store)
        self.assertEqual(renamed(EMPTY, ()), EMPTY)

    def test_made(self):
        for seed in range(200):
            language = (SMALL, TWO)[seed % 2]
            maker, chance = Maker(language, seed), random.Random(seed)
            store, form = maker.store(4), maker.form()
            sorts = store_sorts(store)
            order = list(range(len(sorts)))
            chance.shuffle(order)
            order = tuple(sorted(order, key=lambda thing: sorts[thing]))
            told = renamed(store, order)
            check_store(language, told)
            self.assertEqual(turned(told[1], order), store[1])
            self.assertEqual(keeps(told, form), keeps(store, form))
            back = tuple(order.index(thing) for thing in range(len(order)))
            self.assertEqual(renamed(told, back), store)

    def test_stores_that_are_larger(self):
        atoms = tuple((0, pair) for pair in itertools.product(range(150), repeat=2))
        store = ((150,), atoms)
        self.assertEqual(renamed(store, tuple(range(149, -1, -1))), store)
        self.assertEqual(len(part_of(store, tuple(range(145)))[1]), 145 ** 2)


if __name__ == "__main__":
    unittest.main()
