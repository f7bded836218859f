"""[34]: the beginning of the least store, and maps."""

import random
import unittest

from bagkinds.errors import TooMany
from bagkinds.finite import finite_store
from bagkinds.forms import keeps
from bagkinds.leasts import least_store, map_into
from bagkinds.plain import closed_facts
from bagkinds.stores import check_store
from tests.helpers import atom, is_plain_value, sort, store_sorts
from tests.slow_plain import (
    CLASH, PLAIN, SORTED, SlowFamily, plain_book, slow_begun, slow_facts, slow_maps, slow_ways_in,
)
from tests.test_plain import P, Q, R, once, rule, some

ONWARD = (some(atom(P, 0), (), atom(R, 0, 1), atom(P, 1)), rule(atom(R, 0, 1), (), atom(Q, 1)))


def slow_least(book, depth):
    """least_store as [34] says it: things are first named by their bag and place, then numbered."""
    language, forms, names, _ = book
    family, facts = SlowFamily(language, forms), slow_facts(book)
    bags, sorts, atoms = [[("name", name) for name in range(len(names))]], {}, set()
    sorts.update(zip(bags[0], names))
    level = [(names, set(facts), bags[0])]
    atoms.update((number, tuple(("name", name) for name in row)) for number, row in facts)

    def bag(form, has, values, things):
        """The closed bag below: its sorts, its atoms and its things."""
        row, begun, _, seen = slow_begun(language, form, values)
        over = {(number, tuple(seen[slot] for slot in slots)) for number, slots in has if set(slots) <= set(seen)}
        closed = set(family.closed(row, begun | over))
        told = [things[above] for above in sorted(seen, key=seen.get)]
        for slot in range(len(told), len(row)):
            told.append((len(bags), slot))
            sorts[told[-1]] = row[slot]
        bags.append(told)
        atoms.update((number, tuple(told[slot] for slot in slots)) for number, slots in closed)
        return row, closed, told

    for form in forms:
        if form[0] == "once":
            level.append(bag(form, (), {}, []))
    for _ in range(depth):
        below = []
        for row, has, things in level:
            for form in forms:
                if form[0] == "some":
                    ways = slow_ways_in(language, row, has, form)
                    for values in sorted(ways, key=lambda told: [told[term] for term in sorted(told)]):
                        below.append(bag(form, has, values, things))
        level = below
    order = [thing for number in range(language[0]) for thing in sorts if sorts[thing] == number]
    place_of = {thing: place for place, thing in enumerate(order)}
    told = tuple(tuple(place_of[thing] for thing in things) for things in bags)
    counts = tuple(sum(1 for thing in order if sorts[thing] == number) for number in range(language[0]))
    return ((counts, tuple(sorted((number, tuple(place_of[thing] for thing in row)) for number, row in atoms))), told[0], told)


class LeastStoreTest(unittest.TestCase):
    def test_depths(self):
        book = (PLAIN, ONWARD, (0, 0), (atom(P, 1), atom(R, 1, 0)))
        first = ((2,), ((R, (1, 0)), (P, (1,)), (Q, (0,))))
        self.assertEqual(least_store(book, 0), (first, (0, 1), ((0, 1),)))
        second = ((3,), ((R, (1, 0)), (R, (1, 2)), (P, (1,)), (P, (2,)), (Q, (0,)), (Q, (2,))))
        self.assertEqual(least_store(book=book, depth=1), (second, (0, 1), ((0, 1), (1, 2))))
        # In a bag both things have p: each of them has a next below it.
        self.assertEqual(least_store(book, 2)[2], ((0, 1), (1, 2), (1, 3), (2, 4)))
        for depth in range(7):
            store, places, bags = least_store(book, depth)
            self.assertEqual((store[0], places, len(bags)), ((1 + 2 ** depth,), (0, 1), 2 ** depth))
            check_store(PLAIN, store)

    def test_order_of_bags(self):
        forms = (once(atom(R, 7, 3), atom(P, 3)), some(sort(0, 0), (), sort(0, 1)), some(atom(R, 0, 1), (), atom(R, 2, 0), atom(Q, 2)),
                 once(sort(0, 1)))
        store, places, bags = least_store((PLAIN, forms, (0, 0), (atom(R, 1, 0),)), 1)
        self.assertEqual(places, (0, 1))
        self.assertEqual(bags, ((0, 1), (2, 3), (4,), (5,), (6,), (1, 7), (8,), (9,), (3, 10), (11,)))
        self.assertEqual(store, ((12,), ((R, (1, 0)), (R, (3, 2)), (R, (7, 1)), (R, (10, 3)), (P, (2,)), (Q, (7,)), (Q, (10,)))))

    def test_shared_variables_on_one_thing(self):
        language = (2, (("t", (0, 1, 0)), ("r", (0, 0)), ("u", (1,))))
        forms = (some(atom(1, 0, 2), (), atom(0, 0, 1, 2)),)
        store, places, bags = least_store((language, forms, (0, 1, 0), (atom(1, 0, 0), atom(1, 2, 0))), 1)
        self.assertEqual((places, bags), ((0, 2, 1), ((0, 2, 1), (0, 3), (1, 0, 4))))
        self.assertEqual(store, ((2, 3), ((0, (0, 3, 0)), (0, (1, 4, 0)), (1, (0, 0)), (1, (1, 0)))))

    def test_without_names_and_once_forms(self):
        self.assertEqual(least_store((PLAIN, ONWARD, (), ()), 6), (((0,), ()), (), ((),)))
        self.assertEqual(least_store((SORTED, (), (1, 0), ()), 3), (((1, 1), ()), (1, 0), ((1, 0),)))
        forms = (some(sort(0, 0), (), sort(0, 1)),)
        self.assertEqual(least_store((PLAIN, forms, (), ()), 2), (((0,), ()), (), ((),)))

    def test_2000_and_2001_things(self):
        twice = tuple(once(sort(0, 0)) for _ in range(20)) + tuple(some(sort(0, 0), (), sort(0, 1)) for _ in range(9))
        self.assertEqual(least_store((PLAIN, twice, (), ()), 2)[0][0], (20 * (1 + 9 + 81),))
        forms = tuple(once(sort(0, 0)) for _ in range(40)) + tuple(some(sort(0, 0), (), atom(R, 0, 1)) for _ in range(39))
        self.assertEqual(least_store((PLAIN, forms, (0,) * 10, ()), 1)[0][0], (2000,))
        for book in ((PLAIN, forms, (0,) * 11, ()), (PLAIN, forms + (once(atom(R, 0, 0)),), (0,) * 10, ())):
            self.assertLess(sum(least_store(book, 0)[0][0]), 60)
            with self.assertRaises(TooMany):
                least_store(book, 1)

    def test_many_bags(self):
        """Each bag but the first has a new thing, so there are too many things before there are 4000 bags."""
        forms = tuple(once(sort(0, 0)) for _ in range(3)) + tuple(some(sort(0, 0), (), sort(0, 1)) for _ in range(3))
        self.assertEqual(len(least_store((PLAIN, forms, (), ()), 5)[2]), 1 + 3 * 364)
        for depth in (5, 6):
            with self.assertRaises(TooMany):
                least_store((PLAIN, forms * 3, (), ()), depth)

    def test_slow(self):
        seen = 0
        for seed in range(250):
            book = plain_book(seed, 3 + seed % 6, 3, 4)
            if slow_facts(book) == CLASH:
                continue
            for depth in range(4):
                told = slow_least(book, depth)
                if len(told[2]) > 60:
                    break
                self.assertEqual(least_store(book, depth), told)
                self.assertTrue(is_plain_value(told))
                self.assertTrue(all(keeps(told[0], form) for form in book[1] if form[0] != "some"))
                seen += depth > 1 and len(told[2]) > 5
        self.assertGreater(seen, 50)

    def test_maps_into_stores_that_keep_the_book(self):
        seen = 0
        for seed in range(200):
            book = plain_book(seed, 3 + seed % 5, 3, 3)
            if closed_facts(book) == CLASH:
                continue
            found = finite_store(book)
            store, places, _ = least_store(book, 1)
            if found is not None and sum(store[0]) < 12:
                self.assertIsNotNone(map_into(store, places, found[0], found[1]))
                seen += 1
        self.assertGreater(seen, 80)


class MapIntoTest(unittest.TestCase):
    def test_least(self):
        path = ((3,), ((0, (0, 1)), (0, (1, 2))))
        ring = ((3,), ((0, (0, 1)), (0, (1, 0)), (0, (2, 2))))
        self.assertEqual(map_into(path, (), ring, ()), (0, 1, 0))
        self.assertEqual(map_into(first=path, places=(2,), second=ring, others=(1,)), (1, 0, 1))
        self.assertEqual(map_into(path, (0, 1), ring, (2, 2)), (2, 2, 2))
        self.assertEqual(map_into(path, (2, 0), ring, (1, 1)), (1, 0, 1))
        self.assertIsNone(map_into(path, (0, 1), ring, (0, 2)))
        self.assertIsNone(map_into(ring, (), path, ()))
        self.assertIsNone(map_into(((1,), ((0, (0, 0)),)), (), path, ()))

    def test_things_that_are_told(self):
        first = ((1, 1), ())
        second = ((2, 2), ())
        self.assertEqual(map_into(first, (), second, ()), (0, 2))
        self.assertEqual(map_into(first, (1, 0), second, (3, 1)), (1, 3))
        for others in ((0, 0), (1, 3), (0, 1)):
            self.assertIsNone(map_into(first, (1, 0), second, others))
        self.assertEqual(map_into(((3, 0), ()), (0, 2), ((1, 0), ()), (0, 0)), (0, 0, 0))

    def test_empty_stores(self):
        self.assertEqual(map_into(((0, 0), ()), (), ((0, 0), ()), ()), ())
        self.assertEqual(map_into(((0, 0), ()), (), ((2, 1), ()), ()), ())
        self.assertIsNone(map_into(((0, 1), ()), (), ((2, 0), ()), ()))

    def test_relations_that_the_second_does_not_have(self):
        self.assertIsNone(map_into(((1,), ((5, (0,)),)), (), ((1,), ((0, (0,)),)), ()))

    def test_slow(self):
        for seed in range(500):
            chance = random.Random(seed)
            stores = []
            for most in (3, 3):
                counts = (chance.randint(0, most), chance.randint(0, 2))
                sorts = store_sorts((counts, ()))
                pairs = [(number, (one, two)) for number, places in ((0, (0, 0)), (1, (1, 0)))
                         for one, told in enumerate(sorts) for two, wanted in enumerate(sorts) if (told, wanted) == places]
                stores.append((counts, tuple(pair for pair in pairs if chance.random() < (0.25, 0.6)[len(stores)])))
            first, second = stores
            places = tuple(chance.sample(range(sum(first[0])), min(sum(first[0]), chance.randint(0, 2))))
            if sum(second[0]) == 0:
                places = ()
            others = tuple(chance.randrange(sum(second[0])) for _ in places)
            told = slow_maps(first, places, second, others)
            self.assertEqual(map_into(first, places, second, others), told[0] if told else None)

    def test_many_things(self):
        many = 3999
        path = ((many + 1,), tuple((0, (k, k + 1)) for k in range(many)))
        self.assertEqual(map_into(path, (0,), ((2,), ((0, (0, 1)), (0, (1, 0)))), (1,)), tuple((k + 1) % 2 for k in range(many + 1)))
        path = ((100,), tuple((0, (k, k + 1)) for k in range(99)))
        self.assertEqual(map_into(path, (), path, ()), tuple(range(100)))

    def test_more_than_20000_choices(self):
        """A complete graph of ten things is not mapped into one of nine; to see it takes all orders of the nine."""
        def graph(many):
            return ((many,), tuple((0, (one, two)) for one in range(many) for two in range(many) if one != two))
        self.assertEqual(map_into(graph(5), (), graph(6), ()), (0, 1, 2, 3, 4))
        self.assertIsNone(map_into(graph(6), (), graph(5), ()))
        with self.assertRaises(TooMany):
            map_into(graph(10), (), graph(9), ())


if __name__ == "__main__":
    unittest.main()
