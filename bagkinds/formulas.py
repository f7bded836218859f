"""Formulas: their shape, their free and bound terms, and the sorts of terms."""

from bagkinds.errors import BadFormula
from bagkinds.languages import is_ascending, is_number, is_row

MOST_LEVELS = 12
MOST_PARTS = 200
LAST_TERM = 99
LEAVES = ("atom", "equal")
JOINERS = ("and", "or")
QUANTIFIERS = ("some", "all")


def check_formula(language, value, free):
    """Return None if any value is a formula with these free terms at most, or raise BadFormula."""
    count_parts(language, value, 1)
    _check_binding(value, [term for term, _ in free])
    term_sorts(language, value, free)


def count_parts(language, value, level):
    """Return the number of parts of a value that stands at this level, or raise BadFormula for its shape."""
    if level > MOST_LEVELS or type(value) is not tuple or len(value) == 0 or type(value[0]) is not str:
        raise BadFormula()
    if value[0] in LEAVES:
        _check_leaf(language, value)
    # A guard is a part, too; its level is that of the formula behind it.
    total = 2 if value[0] in QUANTIFIERS else 1
    for part in _checked_parts(language, value):
        total = total + count_parts(language, part, level + 1)
        if total > MOST_PARTS:
            raise BadFormula()
    return total


def _check_leaf(language, value):
    if value[0] == "atom":
        right = is_atom(language, value)
    else:
        right = len(value) == 3 and is_term(value[1]) and is_term(value[2])
    if not right:
        raise BadFormula()


def _checked_parts(language, value):
    """Return the formulas directly within a value, after looking at what else it has."""
    word = value[0]
    if word in LEAVES:
        return ()
    if word == "not" and len(value) == 2:
        return (value[1],)
    if word in JOINERS and len(value) == 2 and type(value[1]) is tuple:
        return value[1]
    if word in QUANTIFIERS and len(value) == 4 and _are_variables(value[1]) and is_guard(language, value[2]):
        return (value[3],)
    raise BadFormula()


def is_term(value):
    """Tell whether any value is a term."""
    return is_number(value, 0, LAST_TERM)


def _are_variables(value):
    if type(value) is not tuple or len(value) == 0:
        return False
    return all([is_term(term) for term in value]) and is_ascending(value)


def is_atom(language, value):
    """Tell whether any value has the shape of an atom; its sorts are not looked at."""
    if not is_row(value, 3) or value[0] != "atom" or not is_number(value[1], 0, len(language[1]) - 1):
        return False
    places = language[1][value[1]][1]
    return is_row(value[2], len(places)) and all([is_term(term) for term in value[2]])


def is_guard(language, value):
    """Tell whether any value has the shape of a guard; the sorts of an atom are not looked at."""
    if is_row(value, 3) and value[0] == "sort":
        return is_number(value[1], 0, language[0] - 1) and is_term(value[2])
    return is_atom(language, value)


def _check_binding(formula, named):
    bound = []
    for part in all_parts(formula):
        if part[0] in QUANTIFIERS:
            if not _is_held(part):
                raise BadFormula()
            bound.extend(part[1])
    if len(set(bound)) < len(bound):
        raise BadFormula()
    for term in free_terms(formula):
        if term in bound or term not in named:
            raise BadFormula()


def _is_held(part):
    """Tell whether the guard of a part has its variables and what is free behind it."""
    held = all_terms(part[2])
    return all([term in held for term in part[1] + free_terms(part[3])])


def inner_parts(formula):
    """Return the parts directly within a formula or guard, from left to right."""
    if formula[0] == "not":
        return (formula[1],)
    if formula[0] in JOINERS:
        return formula[1]
    if formula[0] in QUANTIFIERS:
        return (formula[2], formula[3])
    return ()


def all_parts(formula):
    """Return the list of all parts, from left to right, a part before those within it."""
    found = [formula]
    for part in inner_parts(formula):
        found.extend(all_parts(part))
    return found


def _own_terms(part):
    """Return the terms that stand in a part itself, not in parts within it."""
    if part[0] == "atom":
        return part[2]
    if part[0] == "equal":
        return part[1:]
    if part[0] == "sort":
        return (part[2],)
    return ()


def free_terms(formula):
    """Return the ascending tuple of the terms that occur outside all parts that bind them."""
    bound = formula[1] if formula[0] in QUANTIFIERS else ()
    found = list(_own_terms(formula))
    for part in inner_parts(formula):
        found.extend(free_terms(part))
    return tuple(sorted({term for term in found if term not in bound}))


def all_terms(formula):
    """Return the ascending tuple of all terms of a formula or guard."""
    return tuple(sorted({term for part in all_parts(formula) for term in _own_terms(part)}))


def is_condition(formula):
    """Tell whether a formula has no part that binds terms."""
    return all([part[0] not in QUANTIFIERS for part in all_parts(formula)])


def term_sorts(language, formula, free):
    """Return the ascending tuple of pairs of a term and its sort; BadFormula if one has no sort, or two."""
    groups = _tied_terms(formula)
    found = {}
    for term, sort in _told_sorts(language, formula, free):
        if found.setdefault(groups[term], sort) != sort:
            raise BadFormula()
    for term in groups:
        if groups[term] not in found:
            raise BadFormula()
    return tuple([(term, found[groups[term]]) for term in sorted(groups)])


def _tied_terms(formula):
    """Return a dict that gives the terms that equalities tie together one and the same term."""
    groups = {term: term for term in all_terms(formula)}
    for part in all_parts(formula):
        if part[0] == "equal":
            old, fresh = groups[part[1]], groups[part[2]]
            groups = {term: fresh if groups[term] == old else groups[term] for term in groups}
    return groups


def _told_sorts(language, formula, free):
    """Return the list of pairs of a term and a sort that atoms, sort guards and free tell."""
    outside = free_terms(formula)
    told = [(term, sort) for term, sort in free if term in outside]
    for part in all_parts(formula):
        if part[0] == "atom":
            told.extend(list(zip(part[2], language[1][part[1]][1])))
        elif part[0] == "sort":
            told.append((part[2], part[1]))
    return told


def renamed_terms(formula, pairs):
    """Return the formula or guard with the first term of each pair replaced by the second, all at once."""
    return _renamed(formula, dict(pairs))


def _renamed(formula, table):
    word = formula[0]
    if word == "atom":
        return (word, formula[1], _renamed_row(formula[2], table))
    if word == "equal":
        return (word,) + _renamed_row(formula[1:], table)
    if word == "sort":
        return (word, formula[1], table.get(formula[2], formula[2]))
    if word == "not":
        return (word, _renamed(formula[1], table))
    if word in JOINERS:
        return (word, tuple([_renamed(part, table) for part in formula[1]]))
    variables = tuple(sorted(_renamed_row(formula[1], table)))
    return (word, variables, _renamed(formula[2], table), _renamed(formula[3], table))


def _renamed_row(terms, table):
    return tuple([table.get(term, term) for term in terms])
