"""[35]: lists of all least sets."""

import itertools
import random
import unittest

from bagkinds.errors import TooMany
from bagkinds.lists import are_lists, least_hitting

FIVES = tuple(itertools.combinations(range(14), 5))
TENS = tuple(itertools.combinations(range(14), 10))


def slow_hitting(sets):
    size = max([max(member) + 1 for member in sets if member], default=0)
    found = []
    for many in range(size + 1):
        for numbers in itertools.combinations(range(size), many):
            if all(set(numbers) & set(member) for member in sets):
                if not any(set(other) <= set(numbers) for other in found):
                    found.append(numbers)
    return tuple(sorted(found))


def rest(size, sets):
    return tuple(tuple(number for number in range(size) if number not in member) for member in sets)


def made_sets(seed):
    chance = random.Random(seed)
    size = chance.choice((3, 5, 9, 11, 12))
    least = 0 if chance.random() < 0.05 else 1
    return size, tuple(tuple(sorted(chance.sample(range(size), chance.randint(least, min(size, 5)))))
                       for _ in range(chance.randint(0, 7)))


def alone(sets):
    return [member for place, member in enumerate(sets)
            if not any(set(other) < set(member) or (other == member and at < place) for at, other in enumerate(sets))]


class LeastHittingTest(unittest.TestCase):
    def test_few(self):
        self.assertEqual(least_hitting(()), ((),))
        self.assertEqual(least_hitting(((),)), ())
        self.assertEqual(least_hitting(((1, 2), ())), ())
        self.assertEqual(least_hitting(sets=((0, 1), (1, 2))), ((0, 2), (1,)))
        self.assertEqual(least_hitting(((1, 2), (0, 1), (1, 2))), ((0, 2), (1,)))
        self.assertEqual(least_hitting(((0, 1, 2), (1,), (1, 3))), ((1,),))
        self.assertEqual(least_hitting(((19,), (0, 19), (3, 12))), ((3, 19), (12, 19)))

    def test_made(self):
        for seed in range(600):
            _, sets = made_sets(seed)
            self.assertEqual(least_hitting(sets), slow_hitting(sets))
            self.assertEqual(least_hitting(sets[::-1] + sets), slow_hitting(sets))

    def test_20_numbers(self):
        pairs = tuple((number, number + 10) for number in range(10))
        found = least_hitting(pairs)
        self.assertEqual(len(found), 1024)
        self.assertEqual(found, tuple(sorted(tuple(sorted(row)) for row in itertools.product(*pairs))))
        threes = tuple(itertools.combinations(range(20), 3))
        self.assertEqual(least_hitting(threes), tuple(sorted(itertools.combinations(range(20), 18))))

    def test_2000_and_more(self):
        """The 2002 sets of five hit all sets of ten; the complement of one of them bars just this one."""
        self.assertEqual(least_hitting(TENS + rest(14, FIVES[:1] + FIVES[-1:])), FIVES[1:-1])
        for sets in (TENS, TENS + rest(14, FIVES[7:8]), tuple(itertools.combinations(range(20), 10))):
            with self.assertRaises(TooMany):
                least_hitting(sets)


class AreListsTest(unittest.TestCase):
    def test_few(self):
        self.assertIs(are_lists(3, ((0, 1),), ((0, 2), (1, 2))), True)
        self.assertIs(are_lists(size=3, least=((0, 1),), greatest=((1, 2), (0, 2))), True)
        self.assertIs(are_lists(3, ((0, 1),), ((0, 2),)), False)
        self.assertIs(are_lists(3, ((0, 1),), ((0,), (1, 2))), False)
        self.assertIs(are_lists(4, ((0, 1),), ((0, 2), (1, 2))), False)
        self.assertIs(are_lists(4, ((0, 1),), ((0, 2, 3), (1, 2, 3))), True)

    def test_sizes(self):
        self.assertIs(are_lists(0, (), ((),)), True)
        self.assertIs(are_lists(0, ((),), ()), True)
        self.assertIs(are_lists(0, (), ()), False)
        self.assertIs(are_lists(0, ((),), ((),)), False)
        self.assertIs(are_lists(20, (), (tuple(range(20)),)), True)
        self.assertIs(are_lists(20, (), (tuple(range(19)),)), False)
        self.assertIs(are_lists(20, ((),), ()), True)
        self.assertIs(are_lists(20, ((19,), (0, 1)), (tuple(range(1, 19)), (0,) + tuple(range(2, 19)))), True)

    def test_made(self):
        for seed in range(400):
            size, sets = made_sets(seed)
            least = tuple(alone(sets))
            greatest = rest(size, slow_hitting(least))
            self.assertIs(are_lists(size, least, greatest), True)
            self.assertIs(are_lists(size, least[::-1], greatest[::-1]), True)
            self.assertIs(are_lists(size, sets, greatest), len(sets) == len(least))
            if greatest:
                self.assertIs(are_lists(size, least, greatest[1:]), False)
                self.assertIs(are_lists(size, least, greatest + greatest[:1]), False)
                self.assertIs(are_lists(size, least, greatest + (greatest[0][1:],)), False)
            if least:
                self.assertIs(are_lists(size, least[1:], greatest), False)
                self.assertIs(are_lists(size, least + least[-1:], greatest), False)

    def test_2000_and_more(self):
        nines = rest(14, FIVES)
        self.assertIs(are_lists(14, TENS + nines[:2], nines[2:]), False)
        barred = [member for member in TENS if not any(set(nine) < set(member) for nine in nines[:2])]
        self.assertIs(are_lists(14, tuple(barred) + nines[:2], nines[2:]), True)
        self.assertIs(are_lists(14, tuple(barred) + nines[:2], nines[3:]), False)
        for greatest in (nines, (), nines[:5]):
            with self.assertRaises(TooMany):
                are_lists(14, TENS, greatest)

    def test_members_are_looked_at_ahead_of_too_many(self):
        inner = tuple(range(9))
        for least, greatest in (
            (TENS + (inner,), ()), ((inner,) + TENS, ()), (TENS + TENS[:1], ()), (TENS[-1:] + TENS, ()),
            (TENS + (tuple(range(14)),), ()), (TENS, ((0, 1), (0,))), (TENS, ((0,), (0, 1))), (TENS, ((3, 4), (3, 4))),
            (TENS, ((), (13,))), (TENS + ((),), ()),
        ):
            self.assertIs(are_lists(14, least, greatest), False)


if __name__ == "__main__":
    unittest.main()
