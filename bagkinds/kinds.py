"""Kinds: what stands over a few slots, up to an exchange of slots of one sort."""

from bagkinds.errors import TooMany
from bagkinds.formulas import all_terms
from bagkinds.stores import atom_table, first_of, matches, picked, standing, truth

MOST_POSSIBLE = 10
MOST_KINDS = 1500


def row_atoms(language, sorts):
    """Return the ascending tuple of all atoms over slots of these sorts."""
    found = []
    for relation, (_, places) in enumerate(language[1]):
        rows = [()]
        for place in places:
            rows = [row + (slot,) for row in rows for slot, sort in enumerate(sorts) if sort == place]
        found.extend([(relation, row) for row in rows])
    return tuple(found)


def placings_of(sorts):
    """Return the ascending list of the ways to put slots on the slots of a kind, each on one of its sort."""
    order = sorted(sorts)
    rows = [()]
    for sort in sorts:
        rows = [row + (slot,) for row in rows for slot, other in enumerate(order) if other == sort and slot not in row]
    return rows


def moved_atoms(atoms, places):
    """Return the ascending tuple of the atoms with each slot replaced by its place."""
    return tuple(sorted([(relation, picked(places, slots)) for relation, slots in atoms]))


def canonical(language, sorts, atoms):
    """Return the kind that these atoms over slots of these sorts make, and the least places of the slots in it."""
    placings = placings_of(sorts)
    best, places = moved_atoms(atoms, placings[0]), placings[0]
    for placing in placings[1:]:
        moved = moved_atoms(atoms, placing)
        # Placings ascend, so of those with the least atoms the first one stays.
        if moved < best:
            best, places = moved, placing
    return ((tuple(sorted(sorts)), best), places)


def kind_of(language, store, things):
    """Return the kind of what stands in the store over an ascending tuple of things."""
    sorts = tuple([_sort_of(store[0], thing) for thing in things])
    atoms = []
    for relation, slots in row_atoms(language, sorts):
        if _stands(store[1], (relation, picked(things, slots))):
            atoms.append((relation, slots))
    return canonical(language, sorts, atoms)[0]


def _sort_of(counts, thing):
    return len([sort for sort in range(len(counts)) if thing >= sum(counts[:sort + 1])])


def _stands(atoms, atom):
    """Tell whether an ascending tuple of atoms has the atom; halving it makes no table of all of them."""
    low, high = 0, len(atoms)
    while low < high:
        middle = (low + high) // 2
        if atoms[middle] < atom:
            low = middle + 1
        else:
            high = middle
    return low < len(atoms) and atoms[low] == atom


def cut(language, kind, slots):
    """Return the kind of what stands over an ascending tuple of slots alone."""
    return canonical(language, picked(kind[0], slots), atoms_over(kind, slots))[0]


def atoms_over(kind, slots):
    """Return the ascending tuple of the atoms over a row of slots alone, each slot by its first place in the row."""
    found = []
    for relation, row in kind[1]:
        if all([slot in slots for slot in row]):
            found.append((relation, tuple([slots.index(slot) for slot in row])))
    return tuple(sorted(found))


def guarded_slots(kind):
    """Return the ascending tuple of the guarded sets of slots, as ascending tuples."""
    found = [(slot,) for slot in range(len(kind[0]))]
    found.extend([tuple(sorted(set(slots))) for _, slots in kind[1]])
    return tuple(sorted(set(found)))


def is_guarded(kind):
    """Tell whether the set of all slots is guarded."""
    return tuple(range(len(kind[0]))) in guarded_slots(kind)


def kind_breaks(kind, form):
    """Return the least tuple of slots at which the kind breaks an "all" form, or None."""
    return first_of(standing(kind[0], atom_table(kind[1]), form[1], ("not", form[2])))


def is_lawful(forms, kind):
    """Tell whether the kind breaks no "all" form."""
    return all([kind_breaks(kind, form) is None for form in forms if form[0] == "all"])


def sort_rows(language):
    """Return the ascending tuple of the sort tuples that a guarded kind can have."""
    found = [(sort,) for sort in range(language[0])]
    for _, places in language[1]:
        found.extend(_rows_of(language[0], places))
    return tuple(sorted(set(found)))


def _rows_of(many, places):
    """Return the sorts of the different things of an atom, in rising order, for each way to have some alike."""
    rows = [()]
    for sort in range(many):
        most = places.count(sort)
        least = min(most, 1)
        rows = [row + (sort,) * times for row in rows for times in range(least, most + 1)]
    return rows


def all_kinds(language, forms):
    """Return the ascending tuple of all guarded kinds that are lawful, or raise TooMany."""
    rows = [(sorts, row_atoms(language, sorts)) for sorts in sort_rows(language)]
    if any([len(atoms) > MOST_POSSIBLE for _, atoms in rows]):
        raise TooMany()
    found = []
    for sorts, atoms in rows:
        found.extend(_row_kinds(forms, sorts, atoms))
        if len(found) > MOST_KINDS:
            raise TooMany()
    return tuple(sorted(found))


def _row_kinds(forms, sorts, atoms):
    """Return the list of the guarded lawful kinds with these sorts; atoms are all possible ones.

    Each set of atoms is a number with a bit for each atom. A table gives each atom a number with a bit
    for each of these sets, so that a form is tried on all sets at once.
    """
    many = 1 << len(atoms)
    full = (1 << many) - 1
    table = {}
    for place, atom in enumerate(atoms):
        table[atom] = sum([1 << number for number in range(many) if number >> place & 1 == 1])
    right = _guarded_cases(sorts, table, full)
    for form in forms:
        if form[0] == "all":
            right = right & _unbroken_cases(sorts, table, full, form)
    placings = placings_of(sorts)
    found = []
    for number in range(many):
        if right >> number & 1 == 1:
            chosen = tuple([atom for place, atom in enumerate(atoms) if number >> place & 1 == 1])
            if all([chosen <= moved_atoms(chosen, placing) for placing in placings]):
                found.append((sorts, chosen))
    return found


def _guarded_cases(sorts, table, full):
    """Return the number with the bits of the sets of atoms by which all slots are guarded."""
    if len(sorts) == 1:
        return full
    cases = 0
    for relation, slots in table:
        if len(set(slots)) == len(sorts):
            cases = cases | table[(relation, slots)]
    return cases


def _unbroken_cases(sorts, table, full, form):
    """Return the number with the bits of the sets of atoms that do not break an "all" form."""
    guard, condition = form[1], form[2]
    terms = all_terms(guard)
    cases = full
    for slots in matches(sorts, table, guard):
        values = dict(zip(terms, slots))
        kept = truth(condition, values, table, full)
        if guard[0] == "atom":
            kept = kept | (full ^ truth(guard, values, table, full))
        cases = cases & kept
    return cases
