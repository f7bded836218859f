"""The closed table of kinds, and what it tells of all stores that keep the forms.

Kinds with the same sorts stand on a sheet: (sorts, kinds, table, full). Each of its kinds has a bit,
full is the number with all these bits, and the table gives each atom the bits of the kinds in which
it stands. So a form is tried on all kinds of a sheet at once.
"""

from bagkinds.forms import places_of, shared
from bagkinds.formulas import all_terms
from bagkinds.kinds import all_kinds, is_guarded, is_lawful, kind_breaks
from bagkinds.stores import matches, picked, truth

# So the numbers with a bit for each kind stay small, however many kinds are passed.
MOST_ON_SHEET = 1024


def sheets_of(kinds):
    """Return the list of the sheets of these kinds."""
    rows = {}
    for kind in kinds:
        rows.setdefault(kind[0], []).append(kind)
    found = []
    for sorts in rows:
        for first in range(0, len(rows[sorts]), MOST_ON_SHEET):
            found.append(_sheet(sorts, rows[sorts][first:first + MOST_ON_SHEET]))
    return found


def _sheet(sorts, kinds):
    table = {}
    for place, (_, atoms) in enumerate(kinds):
        for atom in atoms:
            table[atom] = table.get(atom, 0) | 1 << place
    return (sorts, kinds, table, (1 << len(kinds)) - 1)


def kinds_at(sheet, bits):
    """Return the list of the kinds of a sheet that have these bits."""
    return [kind for place, kind in enumerate(sheet[1]) if bits >> place & 1 == 1]


def sheet_ways(sheet, guard, condition):
    """Return the ascending list of the tuples of slots at which guard and condition stand, with the bits of the kinds.

    The slots are for the terms of the guard, ascending; a tuple is left out where no kind is told for it.
    """
    sorts, _, table, full = sheet
    terms = all_terms(guard)
    found = []
    for slots in matches(sorts, table, guard):
        values = dict(zip(terms, slots))
        bits = truth(condition, values, table, full)
        if guard[0] == "atom":
            bits = bits & truth(guard, values, table, full)
        if bits != 0:
            found.append((slots, bits))
    return sorted(found)


def head_rows(sheet, form, exact):
    """Return what sheet_ways tells of the head of a form and e; if exact is True, only tuples with all slots."""
    found = sheet_ways(sheet, form[-2], form[-1])
    if exact:
        return [(way, bits) for way, bits in found if len(set(way)) == len(sheet[0])]
    return found


def _sheet_views(sheet, slots):
    """Return the list of the views of a row of slots, as view of needs tells them, with the bits of their kinds."""
    over = []
    for relation, row in sheet[2]:
        if all([slot in slots for slot in row]):
            over.append((relation, tuple([slots.index(slot) for slot in row]), sheet[2][(relation, row)]))
    parts = [((), sheet[3])]
    for relation, row, bits in sorted(over):
        finer = [(atoms + ((relation, row),), part & bits) for atoms, part in parts]
        finer.extend([(atoms, part & ~bits) for atoms, part in parts])
        parts = [(atoms, part) for atoms, part in finer if part != 0]
    alike = tuple([slots.index(slot) for slot in slots])
    return [((alike, atoms), part) for atoms, part in parts]


def asked_on(forms, sheet):
    """Return the list of triples of a need, its key and the bits of the kinds that have it so, needs ascending.

    The key of a need is the number of its form with the view of its slots: all needs with one key are
    met by the same kinds in the same ways.
    """
    views = {}
    found = []
    for number, form in enumerate(forms):
        if form[0] == "some":
            above = places_of(shared(form), form[1])
            having = {}
            for way, bits in sheet_ways(sheet, form[1], form[2]):
                slots = picked(way, above)
                having[slots] = having.get(slots, 0) | bits
            for slots in sorted(having):
                if slots not in views:
                    views[slots] = _sheet_views(sheet, slots)
                told = [(view, part & having[slots]) for view, part in views[slots]]
                found.extend([((number, slots), (number, view), bits) for view, bits in told if bits != 0])
    return found


def offered_on(forms, sheets, exact):
    """Return a dict that gives the key of a need the list of what meets it: number of a sheet, way, bits of kinds."""
    found = {}
    for place, sheet in enumerate(sheets):
        views = {}
        for number, form in enumerate(forms):
            if form[0] == "some":
                below = places_of(shared(form), form[3])
                for way, bits in head_rows(sheet, form, exact):
                    slots = picked(way, below)
                    if slots not in views:
                        views[slots] = _sheet_views(sheet, slots)
                    for view, part in views[slots]:
                        if part & bits != 0:
                            found.setdefault((number, view), []).append((place, way, part & bits))
    return found


def is_offered(offers, left):
    """Tell whether some offer is one of a kind left; left has bits for each sheet."""
    return any([bits & left[place] != 0 for place, _, bits in offers])


def strike_all(language, forms):
    """Return the strikes, and the ascending tuple of the kinds that are left after them."""
    kinds = all_kinds(language, forms)
    sheets = sheets_of(kinds)
    asked = [asked_on(forms, sheet) for sheet in sheets]
    offered = offered_on(forms, sheets, True)
    left = [sheet[3] for sheet in sheets]
    told = []
    going = True
    while going:
        struck = [_struck_on(asked[place], offered, left, left[place]) for place in range(len(sheets))]
        fresh = []
        for sheet, pairs in zip(sheets, struck):
            fresh.extend([(kind, need) for need, bits in pairs for kind in kinds_at(sheet, bits)])
        told.extend(sorted(fresh))
        # A kind is struck once, so the sum has just the bits of all.
        left = [old - sum([bits for _, bits in pairs]) for old, pairs in zip(left, struck)]
        going = len(fresh) > 0
    lost = {kind for kind, _ in told}
    return (tuple(told), tuple([kind for kind in kinds if kind not in lost]))


def _struck_on(asked, offered, left, rest):
    """Return the list of the least needs that nothing left meets, with the bits of the kinds of the rest."""
    found = []
    for need, key, bits in asked:
        if bits & rest != 0 and not is_offered(offered.get(key, ()), left):
            found.append((need, bits & rest))
            rest = rest & ~bits
    return found


def greatest_table(language, forms):
    """Return the ascending tuple of the kinds of the greatest closed table, or raise TooMany."""
    return strike_all(language, forms)[1]


def strikes(language, forms):
    """Return the tuple of the kinds that are struck, each with the need that nothing left meets, or raise TooMany."""
    return strike_all(language, forms)[0]


def is_table(language, forms, kinds):
    """Tell whether an ascending tuple of kinds is a closed table."""
    if not all([is_guarded(kind) and is_lawful(forms, kind) for kind in kinds]):
        return False
    sheets = sheets_of(kinds)
    offered = offered_on(forms, sheets, True)
    return all([key in offered for sheet in sheets for _, key, _ in asked_on(forms, sheet)])


def missing_once(language, forms):
    """Return the ascending tuple of the "once" forms that no kind of the greatest table serves, or raise TooMany."""
    return missing_from(forms, greatest_table(language, forms))


def missing_from(forms, kinds):
    """Return the ascending tuple of the numbers of the "once" forms that none of these kinds serves."""
    sheets = sheets_of(kinds)
    found = []
    for number, form in enumerate(forms):
        if form[0] == "once" and not any([head_rows(sheet, form, True) for sheet in sheets]):
            found.append(number)
    return tuple(found)


def always(language, forms, guard, c):
    """Tell whether c holds wherever the guard stands in all stores that keep the forms, or raise TooMany."""
    kinds = greatest_table(language, forms)
    if missing_from(forms, kinds):
        return True
    return all([kind_breaks(kind, ("all", guard, c)) is None for kind in kinds])


def ever(language, forms, guard, c):
    """Tell whether the guard stands with c somewhere in some store that keeps the forms, or raise TooMany."""
    return not always(language, forms, guard, ("not", c))
