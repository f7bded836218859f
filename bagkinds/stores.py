"""Stores: things of sorts with atoms over them, and what is true in them.

The things of a store and the slots of a kind are points alike: here points have a row of sorts,
one for each, and a table with a number for each atom over them, 1 for an atom that stands.
"""

from bagkinds.errors import BadStore
from bagkinds.formulas import JOINERS, LEAVES, all_terms
from bagkinds.languages import is_ascending, is_number, is_row

MOST_THINGS = 4000
MOST_ATOMS = 20000


def check_store(language, value):
    """Return None for a store of the language, or raise BadStore."""
    if not is_row(value, 2) or not is_row(value[0], language[0]) or type(value[1]) is not tuple:
        raise BadStore()
    counts, atoms = value
    if not all([is_number(count, 0, MOST_THINGS) for count in counts]) or len(atoms) > MOST_ATOMS:
        raise BadStore()
    firsts = [sum(counts[:sort]) for sort in range(language[0])]
    if not all([_is_store_atom(language, firsts, counts, atom) for atom in atoms]) or not is_ascending(atoms):
        raise BadStore()


def _is_store_atom(language, firsts, counts, value):
    if not is_row(value, 2) or not is_number(value[0], 0, len(language[1]) - 1):
        return False
    places = language[1][value[0]][1]
    if not is_row(value[1], len(places)):
        return False
    lasts = [first + count - 1 for first, count in zip(firsts, counts)]
    return all([is_number(thing, firsts[sort], lasts[sort]) for sort, thing in zip(places, value[1])])


def thing_sorts(store):
    """Return the tuple of the sorts of all things."""
    return tuple([sort for sort, count in enumerate(store[0]) for _ in range(count)])


def holds(store, formula, values):
    """Tell whether a formula is true in the store, with things for its free terms."""
    sorts = thing_sorts(store)
    table = atom_table(store[1])
    rest = _without_quantifiers(formula, sorts, table)
    return truth(rest, dict(values), table, 1) == 1


def _without_quantifiers(formula, sorts, table):
    """Return a condition that says the same; the atoms it has for parts that bind are put into the table."""
    word = formula[0]
    if word in LEAVES:
        return formula
    if word == "not":
        return (word, _without_quantifiers(formula[1], sorts, table))
    if word in JOINERS:
        return (word, tuple([_without_quantifiers(part, sorts, table) for part in formula[1]]))
    variables, guard = formula[1], formula[2]
    behind = _without_quantifiers(formula[3], sorts, table)
    terms = all_terms(guard)
    outer = [place for place, term in enumerate(terms) if term not in variables]
    # A term is bound by one part alone, so this number below 0 belongs to no other part and to no relation.
    number = -1 - variables[0]
    if word == "all":
        behind = ("not", behind)
    found = standing(sorts, table, guard, behind)
    for points in found:
        table[(number, picked(points, outer))] = 1
    atom = ("atom", number, picked(terms, outer))
    return atom if word == "some" else ("not", atom)


def atom_table(atoms):
    """Return the table in which exactly these atoms stand."""
    return {atom: 1 for atom in atoms}


def truth(condition, values, table, full):
    """Return what a condition is worth with a dict that gives each of its terms a point.

    The table tells what the atoms are worth, from 0 (for those that it leaves out) to full. With a
    full of many bits all of them are reckoned at once, each bit as a case of its own.
    """
    word = condition[0]
    if word == "atom":
        return table.get((condition[1], tuple([values[term] for term in condition[2]])), 0)
    if word == "equal":
        return full if values[condition[1]] == values[condition[2]] else 0
    if word == "not":
        return full ^ truth(condition[1], values, table, full)
    if word == "and":
        return _all_true(condition[1], values, table, full)
    return _some_true(condition[1], values, table, full)


def _all_true(conditions, values, table, full):
    worth = full
    for condition in conditions:
        worth = worth & truth(condition, values, table, full)
        if worth == 0:
            return 0
    return worth


def _some_true(conditions, values, table, full):
    worth = 0
    for condition in conditions:
        worth = worth | truth(condition, values, table, full)
        if worth == full:
            return full
    return worth


def first_of(rows):
    """Return the first item of a list, or None if it has none."""
    return rows[0] if rows else None


def picked(row, places):
    """Return the tuple of the items of a row at these places."""
    return tuple([row[place] for place in places])


def matches(sorts, table, guard):
    """Return the list of the tuples of points, for the terms of the guard ascending, that fit it.

    An atom fits where the table has it, a sort guard at all points of its sort.
    """
    if guard[0] == "sort":
        return [(point,) for point, sort in enumerate(sorts) if sort == guard[1]]
    relation, terms = guard[1], guard[2]
    firsts = [terms.index(term) for term in all_terms(guard)]
    again = [(terms.index(term), place) for place, term in enumerate(terms) if terms.index(term) < place]
    found = []
    for number, points in table:
        if number == relation and all([points[first] == points[place] for first, place in again]):
            found.append(picked(points, firsts))
    return found


def standing(sorts, table, guard, condition):
    """Return the ascending list of the tuples of matches at which the condition is true."""
    terms = all_terms(guard)
    found = matches(sorts, table, guard)
    return sorted([points for points in found if truth(condition, dict(zip(terms, points)), table, 1) == 1])
