"""[13] and [14]: ways, needs, and what meets them."""

import itertools
import unittest

from bagkinds.forms import shared
from bagkinds.kinds import all_kinds, canonical
from bagkinds.needs import at_home, meeting, needs, serving, ways
from tests.helpers import (
    ARROWS, FALSE, TRUE, Maker, atom, both, guard_variables, is_plain_value, neg, slow_row_atoms,
    slow_standing, sort, subsets,
)

ONWARD = ("some", atom(1, 0), TRUE, atom(0, 0, 1), atom(1, 1))
NO_TURN = ("all", atom(0, 0, 1), neg(atom(0, 1, 0)))
PAIR = ((0, 0), ((0, (0, 1)), (1, (0,)), (1, (1,))))
LOOP = ((0,), ((0, (0, 0)), (1, (0,))))
POINT = ((0,), ((1, (0,)),))


class WaysTest(unittest.TestCase):
    def test_ways(self):
        self.assertEqual(ways(PAIR, ONWARD), ((0,), (1,)))
        self.assertEqual(ways(kind=POINT, form=ONWARD), ((0,),))
        self.assertEqual(ways(((0,), ()), ONWARD), ())
        both_ways = ("some", atom(0, 1, 0), TRUE, atom(0, 1, 2), TRUE)
        self.assertEqual(ways(PAIR, both_ways), ((1, 0),))
        self.assertEqual(ways(LOOP, both_ways), ((0, 0),))
        self.assertEqual(ways(PAIR, ("some", sort(0, 4), neg(atom(0, 4, 4)), atom(0, 4, 5), TRUE)), ((0,), (1,)))
        self.assertEqual(ways(PAIR, ("some", atom(0, 0, 1), ("equal", 0, 1), sort(0, 2), TRUE)), ())

    def test_made(self):
        for kind, forms in made():
            for form in forms:
                if form[0] == "some":
                    found = slow_standing(kind[0], set(kind[1]), form[1], form[2])
                    self.assertEqual(ways(kind, form), tuple(sorted(found)))


class NeedsTest(unittest.TestCase):
    def test_needs(self):
        forms = (NO_TURN, ONWARD)
        self.assertEqual(needs(forms, PAIR), ((1, (0,)), (1, (1,))))
        self.assertEqual(needs(forms=(ONWARD,), kind=POINT), ((0, (0,)),))
        self.assertEqual(needs((NO_TURN, ("once", sort(0, 0), TRUE)), PAIR), ())
        self.assertEqual(needs((), PAIR), ())

    def test_none_shared(self):
        apart = ("some", atom(0, 0, 1), TRUE, sort(0, 2), atom(1, 2))
        self.assertEqual(needs((apart, apart), PAIR), ((0, ()), (1, ())))

    def test_shared_variables_ascend(self):
        form = ("some", atom(0, 7, 2), TRUE, atom(4, 7, 2, 9), TRUE)
        kind = ((0, 0), ((0, (0, 1)), (0, (1, 1))))
        self.assertEqual(needs((form,), kind), ((0, (1, 0)), (0, (1, 1))))

    def test_alike_needs_come_once(self):
        form = ("some", atom(0, 0, 1), TRUE, atom(0, 0, 2), TRUE)
        self.assertEqual(needs((form,), ((0, 0), ((0, (0, 0)), (0, (0, 1))))), ((0, (0,)),))

    def test_made(self):
        for kind, forms in made():
            told = needs(forms, kind)
            self.assertEqual(told, slow_needs(forms, kind))
            self.assertTrue(is_plain_value(told))


class MeetingTest(unittest.TestCase):
    forms = (ONWARD,)

    def test_meeting(self):
        self.assertEqual(meeting(self.forms, (0, (0,)), POINT, PAIR, True), (0, 1))
        self.assertEqual(meeting(forms=self.forms, need=(0, (1,)), kind=PAIR, other=PAIR, exact=False), (0, 1))
        self.assertIsNone(meeting(self.forms, (0, (0,)), POINT, POINT, True))
        self.assertEqual(meeting(self.forms, (0, (0,)), LOOP, LOOP, True), (0, 0))
        self.assertIsNone(meeting(self.forms, (0, (0,)), POINT, LOOP, True))
        self.assertIsNone(meeting(self.forms, (0, (0,)), LOOP, PAIR, True))

    def test_atoms_over_shared_variables_in_either_direction(self):
        form = ("some", atom(0, 0, 1), TRUE, atom(2, 0, 1, 2), TRUE)
        more = ((0, 0, 0), ((0, (0, 1)), (0, (1, 0)), (2, (0, 1, 2))))
        less = ((0, 0, 0), ((0, (0, 1)), (2, (0, 1, 2))))
        one_way, two_ways = ((0, 0), ((0, (0, 1)),)), ((0, 0), ((0, (0, 1)), (0, (1, 0))))
        self.assertEqual(meeting((form,), (0, (0, 1)), one_way, less, True), (0, 1, 2))
        self.assertEqual(meeting((form,), (0, (0, 1)), two_ways, more, True), (0, 1, 2))
        self.assertIsNone(meeting((form,), (0, (0, 1)), one_way, more, True))
        self.assertIsNone(meeting((form,), (0, (0, 1)), two_ways, less, True))

    def test_shared_variables_on_one_slot(self):
        form = ("some", atom(0, 0, 1), TRUE, atom(2, 0, 1, 2), TRUE)
        loop = ((0,), ((0, (0, 0)),))
        line = ((0, 0), ((0, (0, 1)),))
        on_one = ((0, 0), ((0, (0, 0)), (2, (0, 0, 1))))
        on_two = ((0, 0, 0), ((0, (0, 1)), (2, (0, 1, 2))))
        self.assertEqual(meeting((form,), (0, (0, 0)), loop, on_one, True), (0, 0, 1))
        self.assertIsNone(meeting((form,), (0, (0, 0)), loop, on_two, True))
        self.assertEqual(meeting((form,), (0, (0, 1)), line, on_two, True), (0, 1, 2))
        self.assertIsNone(meeting((form,), (0, (0, 1)), line, on_one, True))

    def test_shared_variables_in_other_orders(self):
        form = ("some", atom(0, 1, 0), TRUE, atom(2, 0, 1, 2), TRUE)
        language = (1, (("r", (0, 0)), ("p", (0,)), ("t", (0, 0, 0))))
        (_, atoms), places = canonical(language, (0, 0, 0), ((0, (1, 0)), (1, (0,)), (1, (1,)), (2, (0, 1, 2))))
        self.assertEqual(meeting((form,), (0, (1, 0)), PAIR, ((0, 0, 0), atoms), True), places)

    def test_new_variables_on_slots_of_shared_ones(self):
        form = ("some", atom(0, 0, 1), TRUE, atom(2, 0, 1, 2), TRUE)
        line = ((0, 0), ((0, (0, 1)), (2, (0, 1, 0))))
        other = ((0, 0), ((0, (0, 1)), (2, (0, 1, 0)), (2, (0, 1, 1))))
        self.assertEqual(meeting((form,), (0, (0, 1)), line, line, True), (0, 1, 0))
        self.assertEqual(meeting((form,), (0, (0, 1)), other, other, True), (0, 1, 0))
        # The atom of the head is then one over the shared variables, too.
        self.assertIsNone(meeting((form,), (0, (0, 1)), line, other, True))
        self.assertIsNone(meeting((form,), (0, (0, 1)), ((0, 0), ((0, (0, 1)),)), line, True))

    def test_none_shared(self):
        form = ("some", sort(0, 0), TRUE, atom(0, 5, 3), atom(1, 5))
        self.assertEqual(meeting((form,), (0, ()), POINT, PAIR, True), (1, 0))
        self.assertEqual(meeting((form,), (0, ()), ((0,), ()), LOOP, True), (0, 0))
        self.assertIsNone(meeting((form,), (0, ()), LOOP, POINT, True))

    def test_exact(self):
        form = ("some", atom(1, 0), TRUE, sort(0, 1), atom(1, 1))
        self.assertIsNone(meeting((form,), (0, ()), POINT, PAIR, True))
        self.assertEqual(meeting((form,), (0, ()), POINT, PAIR, False), (0,))
        self.assertEqual(meeting((form,), (0, ()), POINT, POINT, True), (0,))
        looped = ((0, 0), ((0, (0, 0)), (0, (0, 1)), (1, (0,))))
        self.assertEqual(meeting(self.forms, (0, (0,)), LOOP, looped, False), (0, 0))
        self.assertIsNone(meeting(self.forms, (0, (0,)), LOOP, looped, True))

    def test_four_slots(self):
        language = (1, (("q", (0, 0, 0, 0)), ("p", (0,))))
        form = ("some", atom(1, 2), TRUE, atom(0, 3, 2, 1, 0), neg(atom(1, 0)))
        other = canonical(language, (0, 0, 0, 0), ((0, (0, 1, 2, 3)), (1, (1,))))[0]
        self.assertEqual(meeting((form,), (0, (0,)), POINT, other, True), (3, 2, 1, 0))
        self.assertIsNone(meeting((form,), (0, (0,)), ((0,), ()), other, True))

    def test_example_of_16(self):
        kinds = all_kinds(ARROWS, (ONWARD, NO_TURN))
        for kind in kinds:
            for need in needs((ONWARD, NO_TURN), kind):
                self.assertTrue(any(meeting((ONWARD, NO_TURN), need, kind, other, True) for other in kinds))

    def test_made(self):
        met = 0
        for kind, forms in made():
            for other in list(others(kind))[:40]:
                for need in needs(forms, kind):
                    for exact in (True, False):
                        told = meeting(forms, need, kind, other, exact)
                        self.assertEqual(told, slow_meeting(forms, need, kind, other, exact))
                        met += told is not None
        self.assertGreater(met, 300)


class AtHomeTest(unittest.TestCase):
    def test_at_home(self):
        self.assertIs(at_home((ONWARD,), (0, (0,)), PAIR), True)
        self.assertIs(at_home(forms=(ONWARD,), need=(0, (1,)), kind=PAIR), False)
        self.assertIs(at_home((ONWARD,), (0, (0,)), LOOP), True)
        self.assertIs(at_home((ONWARD,), (0, (0,)), POINT), False)
        apart = ("some", sort(0, 0), TRUE, atom(0, 1, 2), neg(("equal", 1, 2)))
        self.assertIs(at_home((NO_TURN, apart), (1, ()), PAIR), True)
        self.assertIs(at_home((NO_TURN, apart), (1, ()), LOOP), False)

    def test_made(self):
        homes = 0
        for kind, forms in made():
            for need in needs(forms, kind):
                form = forms[need[0]]
                terms = guard_variables(form[3])
                found = any(
                    tuple(way[terms.index(term)] for term in shared(form)) == need[1]
                    for way in slow_standing(kind[0], set(kind[1]), form[3], form[4])
                )
                self.assertIs(at_home(forms, need, kind), found)
                homes += found
        self.assertGreater(homes, 20)


class ServingTest(unittest.TestCase):
    def test_serving(self):
        forms = (NO_TURN, ("once", atom(0, 3, 2), both(atom(1, 3), atom(1, 2))), ("once", sort(0, 8), atom(1, 8)))
        self.assertEqual(serving(forms, 1, PAIR, True), (1, 0))
        self.assertEqual(serving(forms=forms, number=1, other=LOOP, exact=True), (0, 0))
        self.assertIsNone(serving(forms, 1, POINT, True))
        self.assertEqual(serving(forms, 2, POINT, True), (0,))
        self.assertIsNone(serving(forms, 2, PAIR, True))
        self.assertEqual(serving(forms, 2, PAIR, False), (0,))
        self.assertIsNone(serving((("once", sort(0, 0), FALSE),), 0, POINT, False))

    def test_made(self):
        for kind, forms in made():
            for number, form in enumerate(forms):
                if form[0] == "once":
                    found = slow_standing(kind[0], set(kind[1]), form[1], form[2])
                    self.assertEqual(serving(forms, number, kind, False), min(found) if found else None)
                    found = [way for way in found if set(way) == set(range(len(kind[0])))]
                    self.assertEqual(serving(forms, number, kind, True), min(found) if found else None)


LANGUAGE = (2, (("r", (0, 0)), ("p", (0,)), ("m", (0, 1)), ("t", (0, 1, 0))))


def made():
    """Pairs of a kind and forms."""
    for seed in range(120):
        maker = Maker(LANGUAGE, seed)
        sorts = maker.chance.choice(((0,), (0, 0), (0, 1), (0, 0, 1), (0, 0, 0, 1)))
        possible = slow_row_atoms(LANGUAGE, sorts)
        atoms = tuple(pair for pair in possible if maker.chance.random() < 0.4)
        forms = tuple(maker.form(("some", "some", "once")) for _ in range(4))
        yield canonical(LANGUAGE, sorts, atoms)[0], forms


def others(kind):
    """Kinds near to a kind: with one atom more or less, and of all small rows."""
    for pair in slow_row_atoms(LANGUAGE, kind[0]):
        atoms = set(kind[1]) ^ {pair}
        yield canonical(LANGUAGE, kind[0], tuple(atoms))[0]
    for sorts in ((0, 1), (0, 0)):
        possible = slow_row_atoms(LANGUAGE, sorts)
        for atoms in itertools.islice(subsets(possible), 3, 60, 7):
            yield canonical(LANGUAGE, sorts, atoms)[0]


def slow_needs(forms, kind):
    found = set()
    for number, form in enumerate(forms):
        if form[0] == "some":
            terms = guard_variables(form[1])
            both_have = sorted(set(terms) & set(guard_variables(form[3])))
            for way in slow_standing(kind[0], set(kind[1]), form[1], form[2]):
                found.add((number, tuple(way[terms.index(term)] for term in both_have)))
    return tuple(sorted(found))


def slow_meeting(forms, need, kind, other, exact):
    """meeting as [14] says it, trying all slots and all atoms over the shared variables."""
    form = forms[need[0]]
    terms = guard_variables(form[3])
    both_have = [term for term in terms if term in guard_variables(form[1])]
    for way in sorted(slow_standing(other[0], set(other[1]), form[3], form[4])):
        there = [way[terms.index(term)] for term in both_have]
        pairs = list(zip(need[1], there))
        alike = all((one[0] == two[0]) == (one[1] == two[1]) for one in pairs for two in pairs)
        if exact and set(way) != set(range(len(other[0]))):
            continue
        if alike and all(
            ((number, tuple(need[1][k] for k in row)) in kind[1]) == ((number, tuple(there[k] for k in row)) in other[1])
            for number, (_, places) in enumerate(LANGUAGE[1])
            for row in itertools.product(range(len(pairs)), repeat=len(places))
        ):
            return way
    return None


if __name__ == "__main__":
    unittest.main()
