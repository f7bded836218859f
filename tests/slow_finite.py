"""Slow readings of the document for beginnings of stores, ranks, starting kinds and good roots; made books for them."""

import itertools
import random

from tests.helpers import FALSE, TRUE, atom, both, either, guard_variables, neg, slow_canonical, slow_standing, sort
from tests.slow import (
    shared_of, slow_facts, slow_name_atoms, slow_needs, slow_sets, slow_ways,
)


def slow_grow(book, decision, depth):
    """grow as [20] says it: things are first named by their bag and slot, then numbered."""
    language, forms, names, _ = book
    _, root, kinds, meets, onces = decision
    bags, level, needs_of = [[("name", name) for name in range(len(names))]], [], {}
    sorts = dict(zip(bags[0], names))
    atoms = {(number, tuple(bags[0][name] for name in row)) for number, row in root}

    def bag(kind, held):
        things = []
        for slot, number in enumerate(kind[0]):
            things.append(held.get(slot, (len(bags), slot)))
            sorts.setdefault(things[slot], number)
        bags.append(things)
        atoms.update((number, tuple(things[slot] for slot in row)) for number, row in kind[1])
        return things

    for row in slow_sets(book, root):
        inside = [(number, tuple(row.index(name) for name in told)) for number, told in root if set(told) <= set(row)]
        kind, places = slow_canonical(tuple(names[name] for name in row), inside)
        level.append((kind, {place: ("name", name) for name, place in zip(row, places)}))
    for _, place, _ in onces:
        level.append((kinds[place], dict(enumerate(bag(kinds[place], {})))))
    for _ in range(depth):
        below = []
        for kind, things in level:
            if kind not in needs_of:
                needs_of[kind] = slow_needs(forms, kind)
            for (number, slots), (place, way) in zip(needs_of[kind], meets[kinds.index(kind)]):
                terms = guard_variables(forms[number][3])
                held = {way[terms.index(term)]: things[slot] for term, slot in zip(shared_of(forms[number]), slots)}
                below.append((kinds[place], dict(enumerate(bag(kinds[place], held)))))
        level = below
    order = [thing for number in range(language[0]) for thing in sorts if sorts[thing] == number]
    place_of = {thing: place for place, thing in enumerate(order)}
    told = tuple(tuple(place_of[thing] for thing in things) for things in bags)
    counts = tuple(sum(1 for thing in order if sorts[thing] == number) for number in range(language[0]))
    stand = tuple(sorted((number, tuple(place_of[thing] for thing in row)) for number, row in atoms))
    return ((counts, stand), told[0], told)


def is_wide_need(need):
    return len(set(need[1])) >= 2


def slow_at_home(forms, need, kind):
    form = forms[need[0]]
    terms = guard_variables(form[3])
    return any(tuple(way[terms.index(term)] for term in shared_of(form)) == need[1]
               for way in slow_standing(kind[0], set(kind[1]), form[3], form[4]))


def slow_open(forms, pair):
    kind, settled = pair
    return [need for need in slow_needs(forms, kind)
            if is_wide_need(need) and need not in settled and not slow_at_home(forms, need, kind)]


def slow_below(forms, kind, need, other, way):
    form = forms[need[0]]
    terms = guard_variables(form[3])
    there = dict(zip(need[1], [way[terms.index(term)] for term in shared_of(form)]))
    moved = [(number, tuple(there[slot] for slot in slots)) for number, slots in slow_needs(forms, kind)
             if len(set(slots)) >= 2 and set(slots) <= set(need[1])]
    return (other, tuple(sorted(asked for asked in moved if asked in slow_needs(forms, other))))


class SlowRanks:
    """Ranks of pairs, worked out by trying all kinds and ways again and again."""

    def __init__(self, forms, kinds):
        self.forms, self.kinds, self.steps = forms, kinds, {}

    def step(self, pair):
        """For each open need of a pair the pairs below that meet it."""
        if pair not in self.steps:
            self.steps[pair] = [
                [slow_below(self.forms, pair[0], need, other, way) for other in self.kinds
                 for way in slow_ways(self.forms, need, pair[0], other, False)]
                for need in slow_open(self.forms, pair)
            ]
        return self.steps[pair]

    def rank(self, pair):
        reached, heap = {pair}, [pair]
        while heap:
            for row in self.step(heap.pop()):
                heap.extend(set(row) - reached)
                reached |= set(row)
        ranks = {}
        for rank in range(len(reached) + 1):
            fresh = [other for other in reached - set(ranks)
                     if all(any(below in ranks for below in row) for row in self.step(other))]
            ranks.update({other: rank for other in fresh})
        return ranks.get(pair)


def slow_starters(forms, kinds):
    while True:
        ranks = SlowRanks(forms, kinds)
        starting = [kind for kind in kinds if ranks.rank((kind, ())) is not None]
        left = [kind for kind in kinds if all(
            is_wide_need(need) or any(slow_ways(forms, need, kind, other, False) for other in starting)
            for need in slow_needs(forms, kind)
        )]
        if len(left) == len(kinds):
            return tuple(kinds), tuple(starting)
        kinds = left


def slow_met_among(book, root, need):
    form = book[1][need[0]]
    terms = guard_variables(form[3])
    return any(tuple(names[terms.index(term)] for term in shared_of(form)) == need[1]
               for names in slow_standing(book[2], set(root), form[3], form[4]))


def slow_is_good(book, root, kinds, starting):
    """is_good with what starters returns."""
    forms = book[1]
    if not slow_facts(book, root):
        return False
    asked = set()
    for names in slow_sets(book, root):
        sorts = tuple(book[2][name] for name in names)
        inside = tuple(sorted((number, tuple(names.index(name) for name in row)) for number, row in root
                              if set(row) <= set(names)))
        for form in forms:
            if form[0] == "all" and slow_standing(sorts, set(inside), form[1], neg(form[2])):
                return False
        # The names stand for slots here, in their own order.
        asked |= {(number, tuple(names[slot] for slot in slots)) for number, slots in slow_needs(forms, (sorts, inside))}
    ranks = SlowRanks(forms, kinds)
    whole = (book[2], root)
    for need in asked:
        if slow_met_among(book, root, need):
            continue
        if not is_wide_need(need):
            if not any(slow_ways(forms, need, whole, other, False) for other in starting):
                return False
        elif not any(
            ranks.rank(pair_below_names(forms, asked, need, other, way)) is not None
            for other in kinds for way in slow_ways(forms, need, whole, other, False)
        ):
            return False
    return True


def pair_below_names(forms, asked, need, other, way):
    form = forms[need[0]]
    terms = guard_variables(form[3])
    there = dict(zip(need[1], [way[terms.index(term)] for term in shared_of(form)]))
    moved = [(number, tuple(there[name] for name in names)) for number, names in asked
             if len(set(names)) >= 2 and set(names) <= set(need[1])]
    return (other, tuple(sorted(told for told in moved if told in slow_needs(forms, other))))


# ---- made books ----

# t has rows of three slots, two of one sort, so needs can share two things.
BENT = (2, (("r", (0, 0)), ("t", (0, 1, 0)), ("u", (1,))))
CROSS = (2, (("t", (0, 1, 0)), ("s", (1, 0)), ("u", (1,)), ("p", (0,))))


class BookMaker:
    """Makes books whose needs share several things, the same ones for the same seed."""

    def __init__(self, language, seed):
        self.language = language
        self.chance = random.Random(seed)

    def literal(self, scope):
        choices = [("equal", first, second) for first, second in itertools.combinations(sorted(scope), 2)
                   if scope[first] == scope[second]]
        for number, (_, places) in enumerate(self.language[1]):
            rows = [[term for term in scope if scope[term] == place] for place in places]
            choices.extend(atom(number, *row) for row in itertools.product(*rows))
        told = self.chance.choice(choices or [TRUE])
        return neg(told) if self.chance.random() < 0.5 else told

    def clause(self, scope, many):
        return either(*[self.literal(scope) for _ in range(many)])

    def guard(self, start, old):
        """A guard of two places or more with terms of the dict old and new ones from start; and the sorts of its terms."""
        number = self.chance.choice([number for number, (_, places) in enumerate(self.language[1]) if len(places) > 1])
        terms, scope = [], {}
        for place in self.language[1][number][1]:
            again = [term for term in old if old[term] == place and term not in terms]
            term = self.chance.choice(again) if again and self.chance.random() < 0.65 else start + len(terms)
            terms.append(term)
            scope[term] = place
        return atom(number, *terms), scope

    def some_form(self):
        guard, scope = self.guard(0, {})
        if self.chance.random() < 0.2:
            number = self.chance.randrange(self.language[0])
            guard, scope = sort(number, 0), {0: number}
        head, inner = self.guard(10, scope)
        while all(term in scope for term in inner):
            head, inner = self.guard(10, scope)
        c = TRUE if self.chance.random() < 0.6 else self.clause(scope, 1)
        e = TRUE if self.chance.random() < 0.3 else both(*[self.clause(inner, self.chance.randint(1, 2))
                                                           for _ in range(self.chance.randint(1, 2))])
        return ("some", guard, c, head, e)

    def all_form(self):
        guard, scope = self.guard(0, {})
        return ("all", guard, self.clause(scope, self.chance.randint(1, 3)))

    def rounds(self):
        """Forms by which needs for two things go round: t(x, y, z) asks for t(z, y, w), and never turns back."""
        number = [number for number, (_, places) in enumerate(self.language[1]) if len(places) == 3][0]
        c = self.chance.choice([TRUE, TRUE, self.literal({0: 0, 1: 1, 2: 0})])
        e = self.chance.choice([TRUE, TRUE, self.literal({1: 1, 3: 0})])
        row = self.chance.choice([(2, 1, 3), (2, 1, 3), (3, 1, 2), (0, 1, 3)])
        forms = [("some", atom(number, 0, 1, 2), c, atom(number, *row), e)]
        if self.chance.random() < 0.8:
            forms.append(("all", atom(number, 0, 1, 2), neg(atom(number, 2, 1, 0))))
        if self.chance.random() < 0.5:
            forms.append(("all", atom(number, 0, 1, 0), FALSE))
        if self.chance.random() < 0.5:
            forms.append(("once", atom(number, 0, 1, 2), TRUE))
        return forms

    def book(self, most_names):
        forms = [self.some_form() for _ in range(self.chance.randint(1, 3))]
        forms.extend(self.all_form() for _ in range(self.chance.randint(0, 4)))
        if self.chance.random() < 0.5:
            guard, scope = self.guard(0, {})
            forms.append(("once", guard, self.clause(scope, 1)))
        if self.chance.random() < 0.6:
            forms.extend(self.rounds())
        self.chance.shuffle(forms)
        names = tuple(self.chance.randrange(self.language[0]) for _ in range(self.chance.randint(0, most_names)))
        scope = dict(enumerate(names))
        facts = [self.clause(scope, self.chance.randint(1, 2)) for _ in range(self.chance.randint(0, 4) if names else 0)]
        return (self.language, tuple(forms), names, tuple(facts))


def bent_book(seed, most_names=2):
    return BookMaker((BENT, CROSS)[seed % 2], seed).book(most_names)


def all_roots(book):
    atoms = slow_name_atoms(book)
    for number in range(2 ** len(atoms)):
        yield tuple(pair for place, pair in enumerate(atoms) if number >> place & 1)
