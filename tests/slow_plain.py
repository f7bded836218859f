"""Slow readings of the document for plain rules and their papers, and made plain books."""

import itertools
import random

from tests.helpers import TRUE, atom, guard_variables, slow_row_atoms, sort, store_sorts

CLASH = "clash"


def fits(sorts, guard, values):
    """Whether a guard has its sorts with slots for its variables, as a dict."""
    return guard[0] == "atom" or sorts[values[guard[2]]] == guard[1]


def premises(form):
    """The pairs (relation, terms) that must stand for an "all" or "some" form."""
    front = form[2]
    if front[0] == "or":
        front = front[1][0]
    if front[0] == "not":
        front = front[1]
    found = [part[1:] for part in front[1]]
    return found + ([form[1][1:]] if form[1][0] == "atom" else [])


def put(pair, values):
    return (pair[0], tuple(values[term] for term in pair[1]))


def sorts_of_terms(language, guard):
    if guard[0] == "sort":
        return {guard[2]: guard[1]}
    return dict(zip(guard[2], language[1][guard[1]][1]))


def slow_ways_in(language, sorts, has, form):
    """All assignments of slots to the variables of the guard at which guard and front stand."""
    told = sorts_of_terms(language, form[1])
    terms = sorted(told)
    found = []
    for row in itertools.product(range(len(sorts)), repeat=len(terms)):
        values = dict(zip(terms, row))
        if all(sorts[values[term]] == told[term] for term in terms):
            if all(put(pair, values) in has for pair in premises(form)):
                found.append(values)
    return found


def slow_begun(language, form, values):
    """The sorts of the slots of the set begun below, and its atoms, and the slots of the head's variables; without over."""
    head, e = form[-2], form[-1]
    told = sorts_of_terms(language, head)
    place_of, row, seen = {}, [], {}
    for term in sorted(told):
        if term in values:
            if values[term] not in seen:
                seen[values[term]] = len(row)
                row.append(told[term])
            place_of[term] = seen[values[term]]
    for term in sorted(told):
        if term not in values:
            place_of[term] = len(row)
            row.append(told[term])
    atoms = {put(part[1:], place_of) for part in e[1]}
    if head[0] == "atom":
        atoms.add(put(head[1:], place_of))
    return tuple(row), frozenset(atoms), place_of, seen


def renumberings(sorts):
    """All ways to renumber slots into an order in which sorts do not fall, as tuples of new places."""
    order = tuple(sorted(sorts))
    for places in itertools.permutations(range(len(sorts))):
        if all(order[place] == number for place, number in zip(places, sorts)):
            yield places


class SlowFamily:
    """The family of [30] worked in rounds; a set is known by the least renumbering of what it begins with."""

    def __init__(self, language, forms):
        self.language, self.forms = language, forms
        self.sets, self.seats = {}, {}

    def seat(self, sorts, atoms):
        if (sorts, atoms) not in self.seats:
            told = [(tuple(sorted((number, tuple(places[slot] for slot in row)) for number, row in atoms)), places)
                    for places in renumberings(sorts)]
            least, places = min(told)
            key = (tuple(sorted(sorts)), least)
            self.sets.setdefault(key, set(least))
            self.seats[(sorts, atoms)] = (key, places)
        return self.seats[(sorts, atoms)]

    def below(self, sorts, has, form, values):
        row, atoms, _, seen = slow_begun(self.language, form, values)
        over = {(number, tuple(seen[slot] for slot in slots)) for number, slots in has if set(slots) <= set(seen)}
        key, places = self.seat(row, atoms | frozenset(over))
        return key, {places[slot]: above for above, slot in seen.items()}

    def news(self, sorts, has, form, values):
        key, back = self.below(sorts, has, form, values)
        found = {CLASH} & self.sets[key]
        for pair in self.sets[key] - {CLASH}:
            if set(pair[1]) <= set(back):
                found.add((pair[0], tuple(back[slot] for slot in pair[1])))
        return found

    def work(self):
        while True:
            before = {key: frozenset(has) for key, has in self.sets.items()}
            for key, has in before.items():
                if CLASH in has:
                    continue
                for form in self.forms:
                    if form[0] == "once":
                        continue
                    for values in slow_ways_in(self.language, key[0], has, form):
                        if form[0] == "some":
                            self.sets[key] |= self.news(key[0], has, form, values)
                        else:
                            self.sets[key].add(put(form[2][1][1][1:], values) if form[2][0] == "or" else CLASH)
            if before == {key: frozenset(has) for key, has in self.sets.items()}:
                return

    def closed(self, sorts, atoms):
        """The closure of a set with slots as asked for, or "clash"."""
        key, places = self.seat(tuple(sorts), frozenset(atoms))
        self.work()
        if CLASH in self.sets[key]:
            return CLASH
        back = {place: slot for slot, place in enumerate(places)}
        return tuple(sorted((number, tuple(back[slot] for slot in row)) for number, row in self.sets[key]))


def slow_once_clash(language, forms):
    family = SlowFamily(language, forms)
    found = []
    for number, form in enumerate(forms):
        if form[0] == "once":
            row, atoms, _, _ = slow_begun(language, form, {})
            if family.closed(row, atoms) == CLASH:
                found.append(number)
    return tuple(found)


def slow_facts(book):
    """closed_facts as [31] says it."""
    language, forms, names, facts = book
    if slow_once_clash(language, forms):
        return CLASH
    family, has = SlowFamily(language, forms), {fact[1:] for fact in facts}
    while True:
        before = set(has)
        for row in {(name,) for name in range(len(names))} | {tuple(sorted(set(told))) for _, told in before}:
            over = [(number, tuple(row.index(name) for name in told)) for number, told in before if set(told) <= set(row)]
            closed = family.closed(tuple(names[name] for name in row), over)
            if closed == CLASH:
                return CLASH
            has |= {(number, tuple(row[slot] for slot in slots)) for number, slots in closed}
        if has == before:
            return tuple(sorted(has))


# ---- papers ----

def right_atom(language, sorts, pair):
    return pair in slow_row_atoms(language, sorts)


def slow_line(book, lines, at):
    """Whether a line of the right shape is right."""
    language, forms, _, _ = book
    sorts, atoms, gained, reason = lines[at]
    if not 1 <= len(sorts) <= 4 or tuple(sorted(set(atoms))) != atoms:
        return False
    if not all(right_atom(language, sorts, pair) for pair in atoms):
        return False
    if gained != CLASH and not right_atom(language, sorts, gained):
        return False
    if len(reason) != {"given": 1, "rule": 4, "below": 6}[reason[0]]:
        return False
    if reason[0] == "given":
        return gained in atoms
    number, values, refs = reason[1:4]
    if not 0 <= number < len(forms) or forms[number][0] == "once":
        return False
    form = forms[number]
    terms = guard_variables(form[1])
    if len(values) != len(terms) or not all(0 <= slot < len(sorts) for slot in values):
        return False
    told = dict(zip(terms, values))
    if any(sorts[told[term]] != wanted for term, wanted in sorts_of_terms(language, form[1]).items()):
        return False
    if not all(0 <= ref < at and lines[ref][:2] == (sorts, atoms) for ref in refs):
        return False
    have = [lines[ref][2] for ref in refs]
    if not all(put(pair, told) in have for pair in premises(form)):
        return False
    if reason[0] == "rule":
        return form[0] == "all" and gained == (put(form[2][1][1][1:], told) if form[2][0] == "or" else CLASH)
    return form[0] == "some" and slow_below_line(language, lines, at, form, told, have)


def slow_below_line(language, lines, at, form, told, have):
    below, places = lines[at][3][4:]
    if not 0 <= below < at:
        return False
    sorts, atoms, inner, _ = lines[below]
    head = guard_variables(form[3])
    if len(places) != len(head) or set(places) != set(range(len(sorts))):
        return False
    there = dict(zip(head, places))
    if any(sorts[there[term]] != wanted for term, wanted in sorts_of_terms(language, form[3]).items()):
        return False
    common = [term for term in head if term in told]
    for one, two in itertools.combinations(head, 2):
        if one in common and two in common:
            if (there[one] == there[two]) != (told[one] == told[two]):
                return False
        elif there[one] == there[two]:
            return False
    begun = {put(part[1:], there) for part in form[4][1]}
    if form[3][0] == "atom":
        begun.add(put(form[3][1:], there))
    back = {there[term]: told[term] for term in common}
    if not begun <= set(atoms):
        return False
    for pair in set(atoms) - begun:
        if not set(pair[1]) <= set(back) or put(pair, back) not in have:
            return False
    if inner == CLASH:
        return lines[at][2] == CLASH
    return set(inner[1]) <= set(back) and lines[at][2] == put(inner, back)


def slow_derived(book, goal, value):
    """check_derived for values of the right shape."""
    language, forms, names, facts = book
    steps, lines = value
    if not all(slow_line(book, lines, at) for at in range(len(lines))) or not steps:
        return False
    known = {fact[1:] for fact in facts}
    for who, line, gained in steps:
        if not 0 <= line < len(lines):
            return False
        sorts, atoms, inner, _ = lines[line]
        if isinstance(who, int):
            if not 0 <= who < len(forms) or forms[who][0] != "once" or inner != CLASH or gained != CLASH:
                return False
            row, begun, _, _ = slow_begun(language, forms[who], {})
            if row != sorts or not set(atoms) <= begun:
                return False
        else:
            if tuple(sorted(set(who))) != who or not all(0 <= name < len(names) for name in who):
                return False
            if tuple(names[name] for name in who) != sorts or not all(put(pair, who) in known for pair in atoms):
                return False
            if gained != (CLASH if inner == CLASH else put(inner, who)):
                return False
        known.add(gained)
    return steps[-1][2] in (goal, CLASH)


def slow_bar(book, goal, value):
    """check_bar for values of the right shape."""
    language, forms, names, facts = book
    told, family = value
    if tuple(sorted(set(told))) != told or not all(right_atom(language, names, pair) for pair in told):
        return False
    if goal in told or not {fact[1:] for fact in facts} <= set(told):
        return False
    for sorts, has in family:
        if not 1 <= len(sorts) <= 4 or not all(0 <= number < language[0] for number in sorts):
            return False
        if tuple(sorted(set(has))) != has or not all(right_atom(language, sorts, pair) for pair in has):
            return False
    for row in {(name,) for name in range(len(names))} | {tuple(sorted(set(row))) for _, row in told}:
        over = sorted((number, tuple(row.index(name) for name in who)) for number, who in told if set(who) <= set(row))
        if (tuple(names[name] for name in row), tuple(over)) not in family:
            return False
    for sorts, has in family:
        for form in forms:
            if form[0] == "all":
                for values in slow_ways_in(language, sorts, has, form):
                    if form[2][0] == "not" or put(form[2][1][1][1:], values) not in has:
                        return False
            elif form[0] == "some":
                for values in slow_ways_in(language, sorts, has, form):
                    if not slow_lies(language, family, form, has, values):
                        return False
    return all(slow_lies(language, family, form, (), {}) for form in forms if form[0] == "once")


def slow_lies(language, family, form, has, values):
    row, atoms, _, seen = slow_begun(language, form, values)
    over = {(number, tuple(seen[slot] for slot in slots)) for number, slots in has if set(slots) <= set(seen)}
    for sorts, more in family:
        if sorted(sorts) == sorted(row):
            for places in itertools.permutations(range(len(row))):
                if all(sorts[place] == number for place, number in zip(places, row)):
                    back = {place: slot for slot, place in enumerate(places)}
                    there = {put(pair, back) for pair in more}
                    shared = {pair for pair in there if set(pair[1]) <= set(seen.values())}
                    if atoms | over <= there and shared <= over:
                        return True
    return False


def slow_maps(first, places, second, others):
    """All maps of one store into another, ascending."""
    there, here = store_sorts(second), store_sorts(first)
    told = dict(zip(places, others))
    rows = [[thing for thing, number in enumerate(there) if number == wanted and told.get(place, thing) == thing]
            for place, wanted in enumerate(here)]
    stand = set(second[1])
    return [row for row in itertools.product(*rows) if all(put(pair, row) in stand for pair in first[1])]


# ---- made books ----

PLAIN = (1, (("r", (0, 0)), ("p", (0,)), ("q", (0,))))
SORTED = (2, (("r", (1, 0)), ("t", (0, 1, 0)), ("p", (0,)), ("u", (1,))))


class PlainMaker:
    """Makes plain books, the same ones for the same seed."""

    def __init__(self, language, seed):
        self.language = language
        self.chance = random.Random(seed)

    def atom_of(self, scope, many=1):
        rows = []
        for number, (_, places) in enumerate(self.language[1]):
            told = [[term for term in scope if scope[term] == place] for place in places]
            if all(told):
                rows.append((number, told))
        found = []
        for _ in range(many if rows else 0):
            number, told = self.chance.choice(rows)
            found.append(atom(number, *[self.chance.choice(row) for row in told]))
        return found

    def guard(self, scope, start):
        """A guard with terms of the scope and new ones from start."""
        if self.chance.random() < 0.15:
            number = self.chance.randrange(self.language[0])
            return sort(number, start), {start: number}
        number = self.chance.randrange(len(self.language[1]))
        terms, told = [], {}
        for place, wanted in enumerate(self.language[1][number][1]):
            old = [term for term in list(scope) + list(told) if {**scope, **told}[term] == wanted]
            term = self.chance.choice(old) if old and self.chance.random() < 0.5 else start + place
            terms.append(term)
            told[term] = wanted
        return atom(number, *terms), told

    def form(self, words):
        word = self.chance.choice(words)
        guard, scope = self.guard({}, 0)
        e = ("and", tuple(self.atom_of(scope, self.chance.choice((0, 1, 1, 2)))))
        if word == "once":
            return ("once", guard, e)
        if word == "all":
            given = self.atom_of(scope)
            if not given or self.chance.random() < 0.12:
                return ("all", guard, ("not", e))
            return ("all", guard, ("or", (("not", e), given[0])))
        head, told = self.guard(scope, 10)
        while not set(told) - set(scope):
            head, told = self.guard(scope, 10)
        inner = ("and", tuple(self.atom_of(told, self.chance.choice((0, 1, 2)))))
        return ("some", guard, e if self.chance.random() < 0.5 else TRUE, head, inner)

    def book(self, most_forms=6, most_names=3, most_facts=4):
        forms = [self.form(("all", "all", "some", "some", "once")) for _ in range(self.chance.randint(1, most_forms))]
        names = tuple(self.chance.randrange(self.language[0]) for _ in range(self.chance.randint(0, most_names)))
        facts = self.atom_of(dict(enumerate(names)), self.chance.randint(0, most_facts)) if names else []
        return (self.language, tuple(forms), names, tuple(facts))


def plain_book(seed, most_forms=6, most_names=3, most_facts=4):
    return PlainMaker((PLAIN, SORTED)[seed % 2], seed).book(most_forms, most_names, most_facts)
