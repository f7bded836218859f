"""[20]: the beginning of a store."""

import random
import unittest

from bagkinds.books import keeps_book
from bagkinds.deciding import check_decision, decide
from bagkinds.errors import TooMany
from bagkinds.forms import keeps
from bagkinds.growing import grow
from bagkinds.needs import meeting_ways, needs
from bagkinds.stores import check_store, holds
from bagkinds.tables import greatest_table
from tests.helpers import ARROWS, TRUE, atom, both, guard_variables, is_plain_value, neg, slow_standing, sort
from tests.slow import SMALL, TWO, made_book, shared_of, slow_once_ways
from tests.slow_finite import bent_book, slow_grow

ONWARD = ("some", atom(1, 0), TRUE, atom(0, 0, 1), atom(1, 1))
NO_TURN = ("all", atom(0, 0, 1), neg(atom(0, 1, 0)))
ONE, POINT = ((0,), ()), ((0,), ((1, (0,)),))
PAIR = ((0, 0), ((0, (0, 1)), (1, (0,)), (1, (1,))))
# one name with p; the pair meets the needs of the point and of both of its own slots
BOOK = (ARROWS, (ONWARD, NO_TURN), (0,), (atom(1, 0),))
PAPER = ("store", ((1, (0,)),), (POINT, PAIR), (((1, (0, 1)),), ((1, (0, 1)), (1, (0, 1)))), ())


class SmallTest(unittest.TestCase):
    def test_depths(self):
        self.assertIs(check_decision(BOOK, PAPER), True)
        self.assertEqual(grow(BOOK, PAPER, 0), (((1,), ((1, (0,)),)), (0,), ((0,),)))
        store = ((2,), ((0, (0, 1)), (1, (0,)), (1, (1,))))
        self.assertEqual(grow(book=BOOK, decision=PAPER, depth=1), (store, (0,), ((0,), (0, 1))))
        # Below the bag (0, 1) is one for its slot 0 and one for its slot 1.
        store, places, bags = grow(BOOK, PAPER, 2)
        self.assertEqual(bags, ((0,), (0, 1), (0, 2), (1, 3)))
        self.assertEqual(store, ((4,), ((0, (0, 1)), (0, (0, 2)), (0, (1, 3)), (1, (0,)), (1, (1,)), (1, (2,)), (1, (3,)))))
        bags = grow(BOOK, PAPER, 3)[2]
        self.assertEqual(bags, ((0,), (0, 1), (0, 2), (1, 3), (0, 4), (2, 5), (1, 6), (3, 7)))
        self.assertEqual([len(grow(BOOK, PAPER, depth)[2]) for depth in range(7)], [1, 2, 4, 8, 16, 32, 64])

    def test_kinds_in_another_order_and_other_ways(self):
        back = ("some", atom(1, 0), TRUE, atom(0, 0, 1), both(atom(1, 1), atom(0, 1, 0)))
        turned = ((0, 0), ((0, (0, 1)), (0, (1, 0)), (1, (0,)), (1, (1,))))
        book = (ARROWS, (back,), (0,), (atom(1, 0), neg(atom(0, 0, 0))))
        paper = ("store", ((1, (0,)),), (turned, POINT), (((0, (1, 0)), (0, (0, 1))), ((0, (1, 0)),)), ())
        self.assertIs(check_decision(book, paper), True)
        store, places, bags = grow(book, paper, 2)
        # The name stands on the slot 1 of the kind below it; there the slot 0 has a new thing.
        self.assertEqual(bags, ((0,), (1, 0), (2, 1), (0, 3)))
        self.assertEqual((store, places, bags), slow_grow(book, paper, 2))

    def test_without_names_and_needs(self):
        self.assertEqual(grow((ARROWS, (), (), ()), ("store", (), (), (), ()), 6), (((0,), ()), (), ((),)))
        self.assertEqual(grow((TWO, (), (), ()), ("store", (), (), (), ()), 0), (((0, 0), ()), (), ((),)))
        once = ("once", atom(0, 0, 1), TRUE)
        line = ((0, 0), ((0, (0, 1)),))
        paper = ("store", (), (line,), ((),), ((0, 0, (0, 1)),))
        for depth in (0, 6):
            self.assertEqual(grow((ARROWS, (once,), (), ()), paper, depth), (((2,), ((0, (0, 1)),)), (), ((), (0, 1))))

    def test_names_of_unlike_sorts(self):
        book = (TWO, (), (1, 0, 1), (atom(1, 0, 1),))
        root = ((1, (0, 1)),)
        kinds = (((0,), ()), ((0, 1), ((1, (1, 0)),)), ((1,), ()))
        paper = ("store", root, kinds, ((), (), ()), ())
        self.assertEqual(grow(book, paper, 1), (((1, 2), ((1, (1, 0)),)), (1, 0, 2), ((1, 0, 2),)))

    def test_things_sort_by_sort(self):
        # Each u has an m to a thing, each thing has one back.
        down = ("some", sort(1, 0), TRUE, atom(1, 0, 1), TRUE)
        up = ("some", sort(0, 0), TRUE, atom(1, 1, 0), TRUE)
        book = (TWO, (down, up, ("once", sort(1, 0), TRUE), ("once", atom(1, 0, 1), TRUE)), (0,), ())
        low, high, both_there = ((0,), ()), ((1,), ()), ((0, 1), ((1, (1, 0)),))
        paper = ("store", (), (low, high, both_there), (((2, (0, 1)),), ((2, (0, 1)),), ((2, (0, 1)), (2, (0, 1)))),
                 ((2, 1, (0,)), (3, 2, (1, 0))))
        # heads have the variables 0 and 1 in either order: m(0, 1) stands with 0 on the slot 1
        self.assertIs(check_decision(book, paper), False)
        paper = ("store", (), (low, high, both_there), (((2, (0, 1)),), ((2, (1, 0)),), ((2, (1, 0)), (2, (0, 1)))),
                 ((2, 1, (0,)), (3, 2, (1, 0))))
        self.assertIs(check_decision(book, paper), True)
        told = grow(book, paper, 2)
        self.assertEqual(told, slow_grow(book, paper, 2))
        # bags: the name, u, a pair; then pairs below the name, below u, and two below the pair
        store, places, bags = grow(book, paper, 1)
        self.assertEqual(store[0], (4, 5 - 1))
        self.assertEqual(places, (0,))
        self.assertEqual(bags, ((0,), (4,), (1, 5), (0, 6), (2, 4), (3, 5), (1, 7)))

    def test_needs_that_share_nothing_and_several(self):
        language = (1, (("r", (0, 0)), ("p", (0,))))
        apart = ("some", atom(1, 0), TRUE, atom(0, 1, 2), neg(("equal", 1, 2)))
        book = (language, (apart,), (0,), (atom(1, 0),))
        told = decide(book)
        store, places, bags = grow(book, told, 1)
        self.assertEqual(bags[:2], ((0,), (1, 2)))
        self.assertEqual((store, places, bags), slow_grow(book, told, 1))

    def test_two_names_with_needs(self):
        book = (ARROWS, (ONWARD, NO_TURN), (0, 0), (atom(1, 1), atom(1, 0), atom(0, 1, 0)))
        told = decide(book)
        for depth in range(4):
            self.assertEqual(grow(book, told, depth), slow_grow(book, told, depth))
        # The sets are (0,), (0, 1) and (1,), and the pair of names has two needs.
        self.assertEqual([len(bag) for bag in grow(book, told, 1)[2]], [2, 2, 2, 2, 2])
        self.assertEqual([bag[0] for bag in grow(book, told, 1)[2]], [0, 0, 1, 0, 1])


class MadeTest(unittest.TestCase):
    def test_made(self):
        grown = 0
        for seed in range(260):
            book = made_book((SMALL, TWO)[seed % 2], seed) if seed < 130 else bent_book(seed)
            told = decide(book)
            if told[0] == "none":
                continue
            for paper in (told, other_paper(book, told, seed)):
                self.assertIs(check_decision(book, paper), True)
                for depth in range(3):
                    expected = slow_grow(book, paper, depth)
                    if sum(expected[0][0]) > 2000 or len(expected[2]) > 4000:
                        continue
                    store, places, bags = grow(book, paper, depth)
                    self.assertEqual((store, places, bags), expected)
                    self.assertEqual((store, places, bags), grow(book, paper, depth))
                    self.assertTrue(is_plain_value((store, places, bags)))
                    self.check_store(book, store, places)
                    grown += depth
        self.assertGreater(grown, 200)

    def check_store(self, book, store, places):
        self.assertIsNone(check_store(book[0], store))
        values = tuple(enumerate(places))
        for fact in book[3]:
            self.assertIs(holds(store, fact, values), True)
        for form in book[1]:
            if form[0] != "some":
                self.assertIs(keeps(store, form), True)
        kept = tuple(form for form in book[1] if form[0] != "some")
        self.assertIs(keeps_book((book[0], kept) + book[2:], store, places), True)

    def test_needs_above_the_last_level_are_met(self):
        looked = 0
        for seed in range(150):
            book = bent_book(seed)
            told = decide(book)
            if told[0] == "none":
                continue
            store, places, bags = grow(book, told, 1)
            if sum(store[0]) > 30:
                continue
            first = grow(book, told, 0)[2]
            looked += 1
            sorts = [number for number, count in enumerate(store[0]) for _ in range(count)]
            for form in book[1]:
                if form[0] == "some":
                    above, below = guard_variables(form[1]), guard_variables(form[3])
                    met = {tuple(way[below.index(term)] for term in shared_of(form))
                           for way in slow_standing(sorts, set(store[1]), form[3], form[4])}
                    for bag in bags[:len(first)]:
                        inside = {pair for pair in store[1] if set(pair[1]) <= set(bag)}
                        there = [sorts[thing] if thing in bag else -1 for thing in range(len(sorts))]
                        for way in slow_standing(there, inside, form[1], form[2]):
                            self.assertIn(tuple(way[above.index(term)] for term in shared_of(form)), met)
        self.assertGreater(looked, 40)


def other_paper(book, paper, seed):
    """A paper with all kinds of the greatest table, if it is small, in any order, and any ways."""
    chance = random.Random(seed)
    kinds = list(greatest_table(book[0], book[1]))
    if len(kinds) > 50:
        kinds = list(paper[2])
    chance.shuffle(kinds)
    meets = []
    for kind in kinds:
        row = []
        for need in needs(book[1], kind):
            found = [(place, way) for place, other in enumerate(kinds)
                     for way in meeting_ways(book[1], need, kind, other, True)]
            row.append(chance.choice(found))
        meets.append(tuple(row))
    onces = []
    for number, form in enumerate(book[1]):
        if form[0] == "once":
            onces.append((number,) + chance.choice([(place, way) for place, kind in enumerate(kinds)
                                                    for way in slow_once_ways(form, kind, True)]))
    return ("store", paper[1], tuple(kinds), tuple(meets), tuple(onces))


class TooManyTest(unittest.TestCase):
    @staticmethod
    def wide_paper(many, things):
        """A book of names with so many needs each, all met by pairs; things tells how many names there are."""
        forms = tuple(("some", atom(1, 0), TRUE, atom(0, 0, 1), neg(atom(1, 1))) for _ in range(many))
        book = (ARROWS, forms, (0,) * things, tuple(atom(1, name) for name in range(things)))
        line = ((0, 0), ((0, (0, 1)), (1, (0,))))
        paper = ("store", tuple((1, (name,)) for name in range(things)), (POINT, line),
                 (((1, (0, 1)),) * many, ((1, (0, 1)),) * many), ())
        return book, paper

    def test_papers_are_right(self):
        book, paper = self.wide_paper(3, 2)
        self.assertIs(check_decision(book, paper), True)

    def test_2000_and_2001_things(self):
        # d names with n needs have d new things at the first depth for each need, and as many again for each bag.
        for many, names, depth, count in ((44, 1, 2, 1 + 44 + 44 ** 2), (12, 12, 2, 12 * (1 + 12 + 144)), (3, 1, 6, 1093)):
            book, paper = self.wide_paper(many, names)
            self.assertEqual(sum(grow(book, paper, depth)[0][0]), count)
        book, paper = self.wide_paper(45, 1)
        with self.assertRaises(TooMany):
            grow(book, paper, 2)

    def test_just_2000_and_2001_things(self):
        # 400 things for each name with p, in four levels, and one for a name without it
        book, paper = self.wide_paper(7, 5)
        self.assertEqual(sum(grow(book, paper, 3)[0][0]), 2000)
        more = book[:2] + (book[2] + (0,), book[3])
        paper = paper[:2] + (paper[2] + (ONE,), paper[3] + ((),), ())
        self.assertIs(check_decision(more, paper), True)
        self.assertEqual(sum(grow(more, paper, 2)[0][0]), 5 * 57 + 1)
        with self.assertRaises(TooMany):
            grow(more, paper, 3)
        self.assertEqual(sum(grow(book[:2] + (book[2] + (0,), book[3]), paper, 0)[0][0]), 6)

    def test_4000_and_4001_bags(self):
        # bags without new things: a loop that meets its own need, told often
        for many, depth, count in ((62, 2, 2 + 62 + 62 ** 2), (15, 3, 2 + 15 + 225 + 3375)):
            book, paper = loop_paper(many, 0)
            store, places, bags = grow(book, paper, depth)
            self.assertEqual((store[0], len(bags)), ((1,), count))
        book, paper = loop_paper(63, 0)
        with self.assertRaises(TooMany):
            grow(book, paper, 2)

    def test_just_4000_and_4001_bags(self):
        book, paper = loop_paper(36, 2)
        self.assertEqual(len(grow(book, paper, 2)[2]), 1 + 3 * (1 + 36 + 36 ** 2))
        self.assertEqual(len(grow(book, paper, 2)[2]), 4000)
        book, paper = loop_paper(7, 9)
        self.assertEqual(len(grow(book, paper, 2)[2]), 1 + 10 * (1 + 7 + 49))
        # 1 + 10 * (1 + 7 + 49 + 343) are 4001
        with self.assertRaises(TooMany):
            grow(book, paper, 3)

    def test_depth_0_with_many_once_forms(self):
        book, paper = loop_paper(0, 78)
        self.assertEqual(len(grow(book, paper, 0)[2]), 80)


def loop_paper(many, further):
    """A loop for one "once" form and further ones, with so many needs that it meets itself."""
    loop = ((0,), ((0, (0, 0)),))
    forms = (("some", sort(0, 0), TRUE, atom(0, 0, 1), TRUE),) * many + (("once", atom(0, 0, 1), TRUE),) * (1 + further)
    onces = tuple((many + number, 0, (0, 0)) for number in range(1 + further))
    return (ARROWS, forms, (), ()), ("store", (), (loop,), (((0, (0, 0)),) * many,), onces)


if __name__ == "__main__":
    unittest.main()
