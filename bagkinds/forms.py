"""Forms: what they say, and where a store breaks them."""

from bagkinds.errors import BadForm, BadFormula
from bagkinds.formulas import all_terms, check_formula, is_condition, is_guard, term_sorts
from bagkinds.stores import atom_table, first_of, picked, standing, thing_sorts

SIZES = {"all": 3, "some": 5, "once": 3}


def check_form(language, value):
    """Return None for a form of the language, or raise BadForm."""
    if type(value) is not tuple or len(value) == 0 or type(value[0]) is not str:
        raise BadForm()
    if SIZES.get(value[0]) != len(value):
        raise BadForm()
    try:
        told = dict(_checked_side(language, value[1], value[2]))
        if value[0] == "some":
            _check_head(told, _checked_side(language, value[3], value[4]))
    except BadFormula:
        raise BadForm() from None


def _checked_side(language, guard, condition):
    """Return the sorts of the terms of a guard, or raise BadFormula if it or the condition is wrong."""
    if not is_guard(language, guard):
        raise BadFormula()
    told = term_sorts(language, guard, ())
    check_formula(language, condition, told)
    if not is_condition(condition):
        raise BadFormula()
    return told


def _check_head(told, head):
    """Raise BadFormula if a term has another sort in the head, or the head no new one."""
    if any([told.get(term, sort) != sort for term, sort in head]):
        raise BadFormula()
    if all([term in told for term, _ in head]):
        raise BadFormula()


def shared(form):
    """Return the ascending tuple of the variables of a head that its guard has, too."""
    if form[0] != "some":
        return ()
    held = all_terms(form[1])
    return tuple([term for term in all_terms(form[3]) if term in held])


def new(form):
    """Return the ascending tuple of the variables of a head that its guard does not have."""
    if form[0] == "all":
        return ()
    held = shared(form)
    return tuple([term for term in all_terms(form[-2]) if term not in held])


def sentence_of(form):
    """Return the formula without free terms that says the same."""
    if form[0] == "once":
        return ("some", new(form), form[1], form[2])
    guard, condition = form[1], form[2]
    if form[0] == "some":
        condition = ("or", (("not", condition), ("some", new(form), form[3], form[4])))
    return ("all", all_terms(guard), guard, condition)


def places_of(terms, guard):
    """Return the list of the places of these terms among the terms of a guard."""
    held = all_terms(guard)
    return [held.index(term) for term in terms]


def breaks(store, form):
    """Return the least tuple of things at which a form fails, or None if the store keeps it."""
    sorts, table = thing_sorts(store), atom_table(store[1])
    if form[0] == "once":
        return None if standing(sorts, table, form[1], form[2]) else ()
    if form[0] == "all":
        return first_of(standing(sorts, table, form[1], ("not", form[2])))
    above, below = places_of(shared(form), form[1]), places_of(shared(form), form[3])
    met = set()
    for things in standing(sorts, table, form[3], form[4]):
        met.add(picked(things, below))
    for things in standing(sorts, table, form[1], form[2]):
        if picked(things, above) not in met:
            return things
    return None


def keeps(store, form):
    """Tell whether the store keeps the form."""
    return breaks(store, form) is None


def guarded_sets(store):
    """Return the ascending tuple of all guarded sets of things, as ascending tuples."""
    found = [(thing,) for thing in range(sum(store[0]))]
    found.extend([tuple(sorted(set(things))) for _, things in store[1]])
    return tuple(sorted(set(found)))
