"""What the tests share: short writings, slow readings of the document, made values and junk."""

import itertools
import random

TRUE = ("and", ())
FALSE = ("or", ())


def atom(relation, *terms):
    return ("atom", relation, terms)


def sort(number, term):
    return ("sort", number, term)


def neg(formula):
    return ("not", formula)


def both(*formulas):
    return ("and", formulas)


def either(*formulas):
    return ("or", formulas)


# r(0, 0), p(0), m(0, 1), u(1), t(0, 0, 1), d of three sorts
MIXED = (3, (
    ("r", (0, 0)), ("p", (0,)), ("m", (0, 1)), ("u", (1,)), ("t", (0, 0, 1)), ("d", (2, 1, 0, 2)),
))
# the language of the example in [16]
ARROWS = (1, (("r", (0, 0)), ("p", (0,))))


def bend(levels, end):
    """A condition with this many levels, the last one being the end."""
    for _ in range(levels - 1):
        end = ("not", end)
    return end


def broad(parts, end):
    """A condition with this many parts, the ends among them."""
    return ("and", (end,) * (parts - 1))


# ---- slow readings ----

def parts_within(formula):
    word = formula[0]
    if word == "not":
        return [formula[1]]
    if word in ("and", "or"):
        return list(formula[1])
    if word in ("some", "all"):
        return [formula[2], formula[3]]
    return []


def slow_free(formula):
    word = formula[0]
    if word == "atom":
        return set(formula[2])
    if word == "equal":
        return set(formula[1:])
    if word == "sort":
        return {formula[2]}
    found = set()
    for part in parts_within(formula):
        found |= slow_free(part)
    if word in ("some", "all"):
        found -= set(formula[1])
    return found


def guard_variables(guard):
    return tuple(sorted(slow_free(guard)))


def slow_shape(language, value, levels):
    """The number of parts of a value with the shape of a formula of so many levels, or None."""
    if type(value) is not tuple or levels == 0 or not value:
        return None
    if value[0] in ("and", "or") and len(value) == 2 and type(value[1]) is tuple:
        told = [slow_shape(language, part, levels - 1) for part in value[1]]
    elif value[0] == "not" and len(value) == 2:
        told = [slow_shape(language, value[1], levels - 1)]
    elif value[0] in ("some", "all") and len(value) == 4 and slow_terms(value[1]) and value[1]:
        if any(first >= second for first, second in zip(value[1], value[1][1:])):
            return None
        told = [slow_guard(language, value[2], levels - 1), slow_shape(language, value[3], levels - 1)]
    elif value[0] == "equal" and len(value) == 3 and slow_terms(value[1:]):
        return 1
    else:
        return slow_guard(language, value, levels) if value[0] == "atom" else None
    if None in told or sum(told) > 199:
        return None
    return 1 + sum(told)


def slow_terms(value):
    return type(value) is tuple and all(type(term) is int and 0 <= term < 100 for term in value)


def slow_guard(language, value, levels):
    if levels < 1 or type(value) is not tuple or len(value) != 3 or type(value[1]) is not int:
        return None
    if value[0] == "sort":
        return 1 if 0 <= value[1] < language[0] and slow_terms(value[2:]) else None
    if value[0] != "atom" or not 0 <= value[1] < len(language[1]) or not slow_terms(value[2]):
        return None
    return 1 if len(value[2]) == len(language[1][value[1]][1]) else None


def slow_is_formula(language, value, free):
    """Whether check_formula takes a value, as [5] says it."""
    if slow_shape(language, value, 12) is None:
        return False
    bound, told, ties, outside = [], [], [], slow_free(value)
    if not outside <= {term for term, _ in free}:
        return False
    heap = [value]
    while heap:
        part = heap.pop()
        heap.extend(parts_within(part))
        if part[0] in ("some", "all"):
            bound.extend(part[1])
            if not set(part[1]) | slow_free(part[3]) <= slow_free(part[2]):
                return False
        elif part[0] == "atom":
            told.extend(zip(part[2], language[1][part[1]][1]))
        elif part[0] == "sort":
            told.append((part[2], part[1]))
        elif part[0] == "equal":
            ties.append(part[1:])
    told = set(told) | {pair for pair in free if pair[0] in outside}
    for _ in range(len(ties) + 1):
        for first, second in ties:
            told |= {(second, number) for term, number in told if term == first}
            told |= {(first, number) for term, number in told if term == second}
    terms = [term for term, _ in told]
    occurring = {term for term in bound} | outside
    return (len(bound) == len(set(bound)) and not set(bound) & outside
            and len(terms) == len(set(terms)) and set(terms) >= occurring)


def store_sorts(store):
    return [number for number, count in enumerate(store[0]) for _ in range(count)]


def slow_holds(store, formula, values):
    """holds as [6] says it, trying all things for all variables."""
    sorts, atoms = store_sorts(store), set(store[1])
    return slow_true(sorts, atoms, formula, dict(values))


def slow_true(sorts, atoms, formula, values):
    word = formula[0]
    if word == "atom":
        return (formula[1], tuple(values[term] for term in formula[2])) in atoms
    if word == "sort":
        return sorts[values[formula[2]]] == formula[1]
    if word == "equal":
        return values[formula[1]] == values[formula[2]]
    if word == "not":
        return not slow_true(sorts, atoms, formula[1], values)
    if word == "and":
        return all(slow_true(sorts, atoms, part, values) for part in formula[1])
    if word == "or":
        return any(slow_true(sorts, atoms, part, values) for part in formula[1])
    told = []
    for things in itertools.product(range(len(sorts)), repeat=len(formula[1])):
        inner = {**values, **dict(zip(formula[1], things))}
        if slow_true(sorts, atoms, formula[2], inner):
            told.append(slow_true(sorts, atoms, formula[3], inner))
    return any(told) if word == "some" else all(told)


def slow_standing(sorts, atoms, guard, condition):
    """All tuples of points for the variables of a guard, ascending, with which it and the condition are true."""
    terms = guard_variables(guard)
    found = []
    for points in itertools.product(range(len(sorts)), repeat=len(terms)):
        values = dict(zip(terms, points))
        if slow_true(sorts, atoms, guard, values) and slow_true(sorts, atoms, condition, values):
            found.append(points)
    return found


def slow_row_atoms(language, sorts):
    found = []
    for number, (_, places) in enumerate(language[1]):
        for slots in itertools.product(range(len(sorts)), repeat=len(places)):
            if all(sorts[slot] == place for slot, place in zip(slots, places)):
                found.append((number, slots))
    return tuple(sorted(found))


def slow_canonical(sorts, atoms):
    """canonical as [10] says it, trying all orders of the slots."""
    order = tuple(sorted(sorts))
    found = []
    for places in itertools.permutations(range(len(sorts))):
        if all(order[place] == sort for place, sort in zip(places, sorts)):
            moved = tuple(sorted((number, tuple(places[slot] for slot in slots)) for number, slots in atoms))
            found.append((moved, places))
    moved, places = min(found)
    return ((order, moved), places)


def subsets(items):
    for size in range(len(items) + 1):
        yield from itertools.combinations(items, size)


def slow_kinds(language, forms):
    """All guarded lawful kinds, among all sets of atoms over all rows of sorts."""
    found = set()
    for size in range(1, 5):
        for sorts in itertools.combinations_with_replacement(range(language[0]), size):
            possible = slow_row_atoms(language, sorts)
            whole = [pair for pair in possible if len(set(pair[1])) == size]
            if size > 1 and not whole:
                continue
            for atoms in subsets(possible):
                if size > 1 and not any(pair in whole for pair in atoms):
                    continue
                if all(form[0] != "all" or not slow_standing(sorts, set(atoms), form[1], neg(form[2]))
                       for form in forms):
                    found.add(slow_canonical(sorts, atoms)[0])
    return tuple(sorted(found))


# ---- made values ----

class Maker:
    """Makes right formulas, forms and stores of a language, the same ones for the same seed."""

    def __init__(self, language, seed):
        self.language = language
        self.chance = random.Random(seed)
        self.next_term = 0

    def fresh(self):
        self.next_term += 1
        return self.next_term - 1

    def store(self, most):
        counts = tuple(self.chance.randint(0, most) for _ in range(self.language[0]))
        sorts = store_sorts((counts, ()))
        likely = self.chance.choice((0.1, 0.3, 0.6))
        possible = slow_row_atoms(self.language, sorts)
        return (counts, tuple(pair for pair in possible if self.chance.random() < likely))

    def guard(self, scope):
        """A guard with some terms of the scope (a dict of sorts); returns it with the sorts of its new terms."""
        if self.chance.random() < 0.2 or not self.language[1]:
            number, term = self.chance.randrange(self.language[0]), self.fresh()
            return sort(number, term), {term: number}
        number = self.chance.randrange(len(self.language[1]))
        places, terms, made = self.language[1][number][1], [], {}
        keep = self.chance.randrange(len(places))
        for place, wanted in enumerate(places):
            old = [term for term in scope if scope[term] == wanted]
            again = [term for term in made if made[term] == wanted]
            if place != keep and old and self.chance.random() < 0.6:
                terms.append(self.chance.choice(old))
            elif again and self.chance.random() < 0.3:
                terms.append(self.chance.choice(again))
            else:
                terms.append(self.fresh())
                made[terms[-1]] = wanted
        return atom(number, *terms), made

    def leaf(self, scope):
        choices = [TRUE, FALSE]
        for number, (_, places) in enumerate(self.language[1]):
            rows = [[term for term in scope if scope[term] == place] for place in places]
            if all(rows):
                choices.extend([atom(number, *[self.chance.choice(row) for row in rows])] * 3)
        for first, second in itertools.combinations(sorted(scope), 2):
            if scope[first] == scope[second]:
                choices.append(("equal", first, second))
        return self.chance.choice(choices)

    def formula(self, scope, depth, binding=True):
        roll = self.chance.random()
        if depth == 0 or roll < 0.15:
            return self.leaf(scope)
        if roll < 0.3:
            return neg(self.formula(scope, depth - 1, binding))
        if roll < 0.6 or not binding:
            word = self.chance.choice(("and", "or"))
            many = self.chance.choice((0, 1, 2, 2, 3))
            return (word, tuple(self.formula(scope, depth - 1, binding) for _ in range(many)))
        guard, made = self.guard(scope)
        inner = {**{term: scope[term] for term in guard_variables(guard) if term in scope}, **made}
        behind = self.formula(inner, depth - 1)
        return (self.chance.choice(("some", "all")), tuple(sorted(made)), guard, behind)

    def sentence(self, depth):
        self.next_term = 0
        return self.formula({}, depth)

    def form(self, words=("all", "some", "once")):
        self.next_term = 0
        word = self.chance.choice(words)
        guard, made = self.guard({})
        condition = self.formula(made, 2, False)
        if word == "all":
            return (word, guard, condition)
        if word == "once":
            return (word, guard, condition)
        head, fresh = self.guard(made)
        told = {**{term: made[term] for term in guard_variables(head) if term in made}, **fresh}
        return (word, guard, condition, head, self.formula(told, 2, False))


# ---- junk ----

def deep(levels):
    value = ()
    for _ in range(levels - 1):
        value = (value,)
    return value


JUNK = (
    True, False, None, "", "Z", "ATOM", -1, 100000, 10 ** 59, -10 ** 59, (True,), (None, None), ("and",), ("not",),
    ("atom",), deep(28), (0,) * 19000, ((),) * 9000, tuple((k, (k,)) for k in range(4000)),
    ("and", (("and", ()),) * 6000), ("or", tuple(("equal", 0, k) for k in range(4000))),
)


def places_in(value):
    """The paths to all values within a value, itself among them."""
    yield ()
    if isinstance(value, tuple):
        for number, item in enumerate(value):
            for path in places_in(item):
                yield (number,) + path


def replaced(value, path, fresh):
    if not path:
        return fresh
    return value[:path[0]] + (replaced(value[path[0]], path[1:], fresh),) + value[path[0] + 1:]


def spoilt(value):
    """All values that come of a value with junk in one place, or a place left out or told twice."""
    for path in places_in(value):
        for fresh in JUNK:
            yield path, replaced(value, path, fresh)
    for path in places_in(value):
        if path:
            yield path, without(value, path)


def without(value, path):
    if len(path) == 1:
        return value[:path[0]] + value[path[0] + 1:]
    return value[:path[0]] + (without(value[path[0]], path[1:]),) + value[path[0] + 1:]


def item_at(value, path):
    for number in path:
        value = value[number]
    return value


def is_plain_value(value):
    """Whether a value is built of plain tuples, strings, integers, None, True and False alone."""
    if type(value) is tuple:
        return all(is_plain_value(item) for item in value)
    return value is None or type(value) in (int, str, bool)
