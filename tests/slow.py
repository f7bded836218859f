"""Slow readings of the document for tables, books, roots and papers, and made books."""

import itertools

from tests.helpers import (
    Maker, guard_variables, neg, slow_canonical, slow_kinds, slow_row_atoms, slow_standing, slow_true, subsets,
)


def shared_of(form):
    terms = guard_variables(form[1])
    return [term for term in guard_variables(form[3]) if term in terms]


def slow_needs(forms, kind):
    found = set()
    for number, form in enumerate(forms):
        if form[0] == "some":
            terms = guard_variables(form[1])
            for way in slow_standing(kind[0], set(kind[1]), form[1], form[2]):
                found.add((number, tuple(way[terms.index(term)] for term in shared_of(form))))
    return tuple(sorted(found))


def tells(kind, slots):
    """What a kind tells of a row of slots: which are alike, and the atoms over them by places in the row."""
    alike = {(i, j) for i, one in enumerate(slots) for j, two in enumerate(slots) if one == two}
    atoms = set()
    for number, row in kind[1]:
        for places in itertools.product(range(len(slots)), repeat=len(row)):
            if tuple(slots[place] for place in places) == row:
                atoms.add((number, places))
    return alike, atoms


def slow_ways(forms, need, kind, other, exact):
    """All ways in which a kind meets a need of another."""
    form = forms[need[0]]
    terms = guard_variables(form[3])
    found = []
    for way in sorted(slow_standing(other[0], set(other[1]), form[3], form[4])):
        there = tuple(way[terms.index(term)] for term in shared_of(form))
        if (not exact or set(way) == set(range(len(other[0])))) and tells(other, there) == tells(kind, need[1]):
            found.append(way)
    return found


def slow_once_ways(form, other, exact):
    found = sorted(slow_standing(other[0], set(other[1]), form[1], form[2]))
    return [way for way in found if not exact or set(way) == set(range(len(other[0])))]


def slow_strikes(language, forms):
    """The strikes and the kinds left, round by round."""
    left, told = list(slow_kinds(language, forms)), []
    while True:
        fresh = []
        for kind in left:
            unmet = [need for need in slow_needs(forms, kind)
                     if not any(slow_ways(forms, need, kind, other, True) for other in left)]
            if unmet:
                fresh.append((kind, min(unmet)))
        if not fresh:
            return tuple(told), tuple(left)
        told.extend(fresh)
        struck = [kind for kind, _ in fresh]
        left = [kind for kind in left if kind not in struck]


def slow_missing(forms, kinds):
    return tuple(number for number, form in enumerate(forms)
                 if form[0] == "once" and not any(slow_once_ways(form, kind, True) for kind in kinds))


def slow_name_atoms(book):
    text = repr((book[1], book[3]))
    return tuple(pair for pair in slow_row_atoms(book[0], book[2]) if f"('atom', {pair[0]}, " in text)


def slow_sets(book, root):
    return tuple(sorted({(name,) for name in range(len(book[2]))} | {tuple(sorted(set(row))) for _, row in root}))


def slow_root_kind(book, root, names):
    inside = [(number, tuple(names.index(name) for name in row)) for number, row in root if set(row) <= set(names)]
    return slow_canonical(tuple(book[2][name] for name in names), inside)[0]


def slow_facts(book, root):
    values = {name: name for name in range(len(book[2]))}
    return all(slow_true(book[2], set(root), fact, values) for fact in book[3])


def slow_is_root(book, kinds, root):
    return slow_facts(book, root) and all(slow_root_kind(book, root, names) in kinds for names in slow_sets(book, root))


def slow_roots(book, kinds):
    return [tuple(root) for root in subsets(slow_name_atoms(book)) if slow_is_root(book, kinds, tuple(root))]


def slow_shut(book, kinds, told, tree):
    """Whether a tree of the right shape is a shut tree."""
    if tree[0] == "fact":
        return tree[1] < len(book[3]) and slow_worth(book[3][tree[1]], told) is False
    if tree[0] == "set":
        names = tree[1]
        if names != tuple(sorted(set(names))) or not names:
            return False
        if len(names) > 1 and not any(side and set(row) == set(names) for (_, row), side in told.items()):
            return False
        for sorts, atoms in kinds:
            if len(sorts) == len(names):
                for slots in itertools.permutations(range(len(sorts))):
                    seat = dict(zip(names, slots))
                    if all(sorts[seat[name]] == book[2][name] for name in names) and all(
                        ((number, tuple(seat[name] for name in row)) in atoms) == side
                        for (number, row), side in told.items() if set(row) <= set(names)
                    ):
                        return False
        return True
    if tree[1] in told or tree[1] not in slow_name_atoms(book):
        return False
    return all(slow_shut(book, kinds, {**told, tree[1]: side}, part) for side, part in ((True, tree[2]), (False, tree[3])))


def slow_worth(condition, told):
    """True, False or None for open."""
    word = condition[0]
    if word == "atom":
        return told.get((condition[1], condition[2]))
    if word == "equal":
        return condition[1] == condition[2]
    if word == "not":
        inner = slow_worth(condition[1], told)
        return None if inner is None else not inner
    parts = [slow_worth(part, told) for part in condition[1]]
    if word == "and":
        return False if False in parts else None if None in parts else True
    return True if True in parts else None if None in parts else False


def slow_check(book, kinds, value):
    """check_decision for values of the right shape; kinds are all guarded lawful ones."""
    forms = book[1]
    if value[0] == "store":
        _, root, chosen, meets, onces = value
        if len(set(chosen)) < len(chosen) or not set(chosen) <= set(kinds):
            return False
        if tuple(sorted(set(root))) != root or not set(root) <= set(slow_name_atoms(book)):
            return False
        if not slow_is_root(book, chosen, root) or len(meets) != len(chosen):
            return False
        for kind, pairs in zip(chosen, meets):
            asked = slow_needs(forms, kind)
            if len(asked) != len(pairs):
                return False
            for need, (place, way) in zip(asked, pairs):
                if not 0 <= place < len(chosen) or way not in slow_ways(forms, need, kind, chosen[place], True):
                    return False
        if [number for number, _, _ in onces] != [number for number, form in enumerate(forms) if form[0] == "once"]:
            return False
        return all(0 <= place < len(chosen) and way in slow_once_ways(forms[number], chosen[place], True)
                   for number, place, way in onces)
    _, struck, end = value
    left = list(kinds)
    for kind, need in struck:
        if kind not in kinds or need not in slow_needs(forms, kind):
            return False
        if any(slow_ways(forms, need, kind, other, True) for other in left):
            return False
        left = [other for other in left if other != kind]
    if end[0] == "once":
        return end[1] in slow_missing(forms, left)
    return slow_shut(book, left, {}, end[1])


# ---- made books ----

SMALL = (1, (("r", (0, 0)), ("p", (0,))))
TWO = (2, (("r", (0, 0)), ("m", (1, 0)), ("u", (1,))))


def made_book(language, seed, many=3, most_names=3, most_facts=3):
    maker = Maker(language, seed)
    forms = tuple(maker.form(maker.chance.choice((("all",), ("some",), ("all", "some"), ("once",))))
                  for _ in range(maker.chance.randint(1, many)))
    names = tuple(maker.chance.randrange(language[0]) for _ in range(maker.chance.randint(0, most_names)))
    scope = dict(enumerate(names))
    facts = tuple(maker.formula(scope, 2, False) for _ in range(maker.chance.randint(0, most_facts)))
    return (language, forms, names, facts)


def all_stores(language, most):
    """All stores with at most so many things of each sort."""
    for counts in itertools.product(range(most + 1), repeat=language[0]):
        sorts = [number for number, count in enumerate(counts) for _ in range(count)]
        for atoms in subsets(slow_row_atoms(language, sorts)):
            yield (counts, tuple(sorted(atoms)))


def slow_keeps(book, store, places):
    sorts = [number for number, count in enumerate(store[0]) for _ in range(count)]
    values = dict(enumerate(places))
    if not all(slow_true(sorts, set(store[1]), fact, values) for fact in book[3]):
        return False
    return all(slow_keeps_form(sorts, set(store[1]), form) for form in book[1])


def slow_keeps_form(sorts, atoms, form):
    if form[0] == "all":
        return not slow_standing(sorts, atoms, form[1], neg(form[2]))
    if form[0] == "once":
        return bool(slow_standing(sorts, atoms, form[1], form[2]))
    above, below = guard_variables(form[1]), guard_variables(form[3])
    met = slow_standing(sorts, atoms, form[3], form[4])
    return all(
        any(all(way[above.index(term)] == row[below.index(term)] for term in shared_of(form)) for row in met)
        for way in slow_standing(sorts, atoms, form[1], form[2])
    )
