"""Whether some store keeps a book, with a paper either way."""

from bagkinds.kinds import all_kinds
from bagkinds.languages import are_numbers, is_ascending, is_number, is_row
from bagkinds.needs import head_ways, meeting_ways, needs, view
from bagkinds.roots import (
    facts_hold, first_node, first_root, is_name_atom, plan_of, root_kind, root_sets, shut_tree, shuts, used_relations,
)
from bagkinds.tables import (
    greatest_table, head_rows, is_offered, kinds_at, missing_from, offered_on, sheets_of, strike_all,
)


def has_store(book):
    """Tell whether some store keeps the book, or raise TooMany."""
    kinds = greatest_table(book[0], book[1])
    if missing_from(book[1], kinds):
        return False
    return first_root(plan_of(book, kinds)) is not None


def decide(book):
    """Return a paper for a store or for none, or raise TooMany."""
    struck, kinds = strike_all(book[0], book[1])
    missing = missing_from(book[1], kinds)
    if missing:
        return ("none", struck, ("once", missing[0]))
    plan = plan_of(book, kinds)
    root = first_root(plan)
    if root is None:
        return ("none", struck, ("root", shut_tree(plan, first_node(plan))))
    return _store_paper(book, kinds, root)


def _store_paper(book, kinds, root):
    """Return the paper for a store, with those of the kinds of a table that this root needs."""
    sheets = sheets_of(kinds)
    served = [(number, _server(sheets, form)) for number, form in enumerate(book[1]) if form[0] == "once"]
    begun = [root_kind(book, root, names) for names in root_sets(book, root)]
    begun.extend([kind for _, (kind, _) in served])
    met = _met_needs(book[1], sheets, begun)
    chosen = tuple(sorted(met))
    place_of = {kind: place for place, kind in enumerate(chosen)}
    meets = tuple([tuple([(place_of[other], way) for other, way in met[kind]]) for kind in chosen])
    return ("store", root, chosen, meets, tuple([(number, place_of[kind], way) for number, (kind, way) in served]))


def _server(sheets, form):
    """Return the first kind of these sheets that serves a "once" form, with its first way."""
    found = [(sheet, way, bits) for sheet in sheets for way, bits in head_rows(sheet, form, True)]
    sheet, way, bits = found[0]
    return (kinds_at(sheet, bits)[0], way)


def _met_needs(forms, sheets, begun):
    """Return a dict with the kinds begun with and all that are come to from these by needs.

    It gives each of them the list of pairs of a kind and a way by which its needs are met.
    """
    offered = offered_on(forms, sheets, True)
    met = {}
    waiting = list(begun)
    while waiting:
        kind = waiting.pop()
        if kind not in met:
            met[kind] = []
            for number, slots in needs(forms, kind):
                place, way, bits = offered[(number, view(kind, slots))][0]
                met[kind].append((kinds_at(sheets[place], bits)[0], way))
            waiting.extend([other for other, _ in met[kind]])
    return met


def check_decision(book, value):
    """Tell whether any value is a right paper for the book, or raise TooMany."""
    kinds = all_kinds(book[0], book[1])
    if type(value) is not tuple or len(value) == 0:
        return False
    if value[0] == "store":
        return len(value) == 5 and _is_store_paper(book, kinds, value)
    return value[0] == "none" and len(value) == 3 and _is_none_paper(book, kinds, value)


def _is_store_paper(book, kinds, value):
    _, root, chosen, meets, onces = value
    if not _is_row_of_kinds(kinds, chosen) or not _is_allowed_root(book, chosen, root):
        return False
    return _are_meets(book[1], chosen, meets) and _are_onces(book[1], chosen, onces)


def _is_row_of_kinds(kinds, value):
    """Tell whether any value is a tuple of different ones of these kinds, in any order."""
    known = {kind: True for kind in kinds}
    if type(value) is not tuple or not all([_is_kind_of(known, kind) for kind in value]):
        return False
    return len(set(value)) == len(value)


def _is_kind_of(known, value):
    """Tell whether any value is one of the known kinds; its shape is looked at first, for True is 1 to a dict."""
    if not is_row(value, 2) or type(value[0]) is not tuple or type(value[1]) is not tuple:
        return False
    if not all([type(sort) is int for sort in value[0]]) or not all([_is_atom_row(atom) for atom in value[1]]):
        return False
    return value in known


def _is_atom_row(value):
    """Tell whether any value has the shape of an atom of a kind: a number with a tuple of numbers."""
    if not is_row(value, 2) or type(value[0]) is not int or type(value[1]) is not tuple:
        return False
    return all([type(slot) is int for slot in value[1]])


def _is_allowed_root(book, chosen, value):
    """Tell whether any value is a root with which the facts are true and the kinds of names are chosen ones."""
    used = used_relations(book)
    if type(value) is not tuple or not all([is_name_atom(book, used, atom) for atom in value]):
        return False
    if not is_ascending(value) or not facts_hold(book, value):
        return False
    return all([root_kind(book, value, names) in chosen for names in root_sets(book, value)])


def _are_meets(forms, chosen, value):
    if not is_row(value, len(chosen)):
        return False
    for kind, pairs in zip(chosen, value):
        asked = needs(forms, kind)
        if not is_row(pairs, len(asked)):
            return False
        if not all([_is_meet(forms, chosen, kind, need, pair) for need, pair in zip(asked, pairs)]):
            return False
    return True


def _is_meet(forms, chosen, kind, need, value):
    """Tell whether any value is the place of a chosen kind with a way in which it meets the need."""
    if not is_row(value, 2) or not is_number(value[0], 0, len(chosen) - 1):
        return False
    other, way = chosen[value[0]], value[1]
    return _are_slots(other, way) and way in meeting_ways(forms, need, kind, other, True)


def _are_slots(kind, value):
    return are_numbers(value, 0, len(kind[0]) - 1)


def _are_onces(forms, chosen, value):
    numbers = [number for number, form in enumerate(forms) if form[0] == "once"]
    if not is_row(value, len(numbers)):
        return False
    return all([_is_once(forms, chosen, number, triple) for number, triple in zip(numbers, value)])


def _is_once(forms, chosen, number, value):
    """Tell whether any value is this number, with the place of a chosen kind and a way in which it serves the form."""
    if not is_row(value, 3) or not is_number(value[0], number, number) or not is_number(value[1], 0, len(chosen) - 1):
        return False
    other, way = chosen[value[1]], value[2]
    return _are_slots(other, way) and way in head_ways(forms[number], other, True)


def _is_none_paper(book, kinds, value):
    _, struck, end = value
    left = _left_after(book[1], kinds, struck)
    if left is None or not is_row(end, 2):
        return False
    if end[0] == "once":
        return is_number(end[1], 0, len(book[1]) - 1) and end[1] in missing_from(book[1], left)
    return end[0] == "root" and shuts(book, left, end[1])


def _left_after(forms, kinds, value):
    """Return the kinds that are left after strikes, or None if any value has another form or a strike is not due."""
    if type(value) is not tuple:
        return None
    sheets = sheets_of(kinds)
    bits_of = {kind: (place, 1 << k) for place, sheet in enumerate(sheets) for k, kind in enumerate(sheet[1])}
    offered = offered_on(forms, sheets, True)
    left = [sheet[3] for sheet in sheets]
    for pair in value:
        if not is_row(pair, 2) or not _is_kind_of(bits_of, pair[0]):
            return None
        key = _key_of(forms, pair[0], pair[1])
        if key is None or is_offered(offered.get(key, ()), left):
            return None
        place, bit = bits_of[pair[0]]
        left[place] = left[place] & ~bit
    return [kind for sheet, bits in zip(sheets, left) for kind in kinds_at(sheet, bits)]


def _key_of(forms, kind, value):
    """Return the key under which a need of the kind is met, or None if any value is no need of it."""
    if not is_row(value, 2) or not is_number(value[0], 0, len(forms) - 1) or not _are_slots(kind, value[1]):
        return None
    # The form alone is the one with the number 0.
    if (0, value[1]) not in needs((forms[value[0]],), kind):
        return None
    return (value[0], view(kind, value[1]))
