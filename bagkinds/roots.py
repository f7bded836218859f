"""Roots: what stands over the names of a book, and trees that show that nothing right can stand there.

What is told of an atom over names is TRUE or FALSE; an atom that is not told is UNTOLD. The kinds that names
can have are looked up on seats: a dict that gives each row of sorts the sheet of all ways to put the kinds of
this row on slots that have their names already.
"""

from bagkinds.errors import TooMany
from bagkinds.formulas import all_parts
from bagkinds.kinds import canonical, moved_atoms, placings_of, row_atoms
from bagkinds.languages import are_numbers, is_number, is_row
from bagkinds.stores import atom_table, picked, truth
from bagkinds.tables import greatest_table, sheets_of

MOST_ATOMS = 96
MOST_CHOICES = 20000
FALSE = 0
UNTOLD = 1
TRUE = 2


def used_relations(book):
    """Return the ascending tuple of the relations that occur in a form or fact."""
    formulas = list(book[3])
    for form in book[1]:
        formulas.extend(list(form[1:]))
    return tuple(sorted({part[1] for formula in formulas for part in all_parts(formula) if part[0] == "atom"}))


def name_atoms(book):
    """Return the ascending tuple of all atoms over names whose relation occurs in a form or fact."""
    sorts, relations = book[0]
    found = []
    for relation in used_relations(book):
        # With this relation alone in the language, so that those that are not used cost nothing.
        alone = (sorts, (relations[relation],))
        found.extend([(relation, names) for _, names in row_atoms(alone, book[2])])
    return tuple(found)


def is_name_atom(book, used, value):
    """Tell whether any value is an atom over names with one of the relations used."""
    if not is_row(value, 2) or not is_number(value[0], 0, len(book[0][1]) - 1) or value[0] not in used:
        return False
    if not are_numbers(value[1], 0, len(book[2]) - 1):
        return False
    return picked(book[2], value[1]) == book[0][1][value[0]][1]


def root_sets(book, root):
    """Return the ascending tuple of the guarded sets of names, as ascending tuples."""
    found = [(name,) for name in range(len(book[2]))]
    found.extend([names_of(atom) for atom in root])
    return tuple(sorted(set(found)))


def names_of(atom):
    """Return the ascending tuple of the names of an atom over names."""
    return tuple(sorted(set(atom[1])))


def seated(book, root, names):
    """Return the kind of what stands over an ascending tuple of names, and the slots of the names in it."""
    atoms = []
    for relation, row in root:
        if all([name in names for name in row]):
            atoms.append((relation, tuple([names.index(name) for name in row])))
    return canonical(book[0], picked(book[2], names), tuple(atoms))


def root_kind(book, root, names):
    """Return the kind of what stands over a guarded set of names."""
    return seated(book, root, names)[0]


def facts_hold(book, root):
    """Tell whether each fact is true with a root."""
    values = {name: name for name in range(len(book[2]))}
    table = atom_table(root)
    return all([truth(fact, values, table, 1) == 1 for fact in book[3]])


def is_root(book, root):
    """Tell whether the facts and the greatest table allow a root, or raise TooMany."""
    kinds = greatest_table(book[0], book[1])
    return facts_hold(book, root) and all([root_kind(book, root, names) in kinds for names in root_sets(book, root)])


def worth(condition, told):
    """Return TRUE or FALSE where the told atoms settle a condition over names, otherwise UNTOLD."""
    word = condition[0]
    if word == "atom":
        return told.get(condition[1:], UNTOLD)
    if word == "equal":
        return TRUE if condition[1] == condition[2] else FALSE
    if word == "not":
        return TRUE - worth(condition[1], told)
    if word == "and":
        return min([worth(inner, told) for inner in condition[1]], default=TRUE)
    return max([worth(inner, told) for inner in condition[1]], default=FALSE)


def seats_of(kinds):
    """Return the seats of these kinds."""
    spread = {}
    for sorts, atoms in kinds:
        for placing in placings_of(sorts):
            spread[(sorts, moved_atoms(atoms, placing))] = True
    # A row has at most 1024 sets of atoms by [3], so one sheet holds all of it.
    return {sheet[0]: sheet for sheet in sheets_of(list(spread))}


def in_row(book, names):
    """Return the names in the order of their sorts, those of one sort in their own order."""
    order = sorted([(book[2][name], name) for name in names])
    return tuple([name for _, name in order])


def fitting(sheet, row, atom, worth_of_atom):
    """Return the bits of the ways on a sheet, with the names of a row on its slots, that agree about an atom."""
    slots = tuple([row.index(name) for name in atom[1]])
    bits = sheet[2].get((atom[0], slots), 0)
    return bits if worth_of_atom == TRUE else sheet[3] & ~bits


def is_shut_set(book, seats, told, names):
    """Tell whether no kind on the seats can be that of these names by what is told of them."""
    row = in_row(book, names)
    sheet = seats.get(picked(book[2], row), None)
    if sheet is None:
        return True
    bits = sheet[3]
    for atom in told:
        if all([name in names for name in atom[1]]):
            bits = bits & fitting(sheet, row, atom, told[atom])
    return bits == 0


def check_shut(book, value):
    """Tell whether any value is a shut tree for the book, or raise TooMany."""
    return shuts(book, greatest_table(book[0], book[1]), value)


def shuts(book, kinds, value):
    """Tell whether any value is a shut tree for the book with these kinds in the place of the greatest table."""
    return _is_shut_tree(book, used_relations(book), seats_of(kinds), {}, value)


def _is_shut_tree(book, used, seats, told, value):
    if type(value) is not tuple or len(value) == 0:
        return False
    if value[0] == "fact" and len(value) == 2:
        return is_number(value[1], 0, len(book[3]) - 1) and worth(book[3][value[1]], told) == FALSE
    if value[0] == "set" and len(value) == 2:
        return _is_told_set(book, told, value[1]) and is_shut_set(book, seats, told, value[1])
    if value[0] != "atom" or len(value) != 4 or not is_name_atom(book, used, value[1]) or value[1] in told:
        return False
    trees = ((value[2], TRUE), (value[3], FALSE))
    return all([_is_shut_tree(book, used, seats, more(told, value[1], side), tree) for tree, side in trees])


def _is_told_set(book, told, value):
    """Tell whether any value is one name, or the set of names of an atom told to stand, as an ascending tuple."""
    if not are_numbers(value, 0, len(book[2]) - 1):
        return False
    return len(value) == 1 or value in [names_of(atom) for atom in told if told[atom] == TRUE]


def more(told, atom, side):
    """Return what is told, and the atom with this side, in a dict of its own."""
    found = {old: told[old] for old in told}
    found[atom] = side
    return found


def find_root(book):
    """Return a root, or None if there is none, or raise TooMany."""
    return first_root(plan_of(book, greatest_table(book[0], book[1])))


def plan_of(book, kinds):
    """Return the plan of the search for roots with these kinds, or raise TooMany.

    It is (facts, atoms, first, marks): all atoms over names; a dict that gives each set of names that may be
    guarded the bits of the ways in which a kind can be theirs; and for each atom a pair of the numbers of the
    facts that have it and the list of the sets that it is over, with the bits that are left for either side.
    """
    atoms = name_atoms(book)
    if len(atoms) > MOST_ATOMS:
        raise TooMany()
    seats = seats_of(kinds)
    parts = [all_parts(fact) for fact in book[3]]
    sets = [(names, in_row(book, names)) for names in root_sets(book, atoms)]
    placed = [(names, row, seats.get(picked(book[2], row), None)) for names, row in sets]
    first = {names: 0 if sheet is None else sheet[3] for names, _, sheet in placed}
    marks = []
    for atom in atoms:
        numbers = [number for number, inner in enumerate(parts) if ("atom",) + atom in inner]
        over = [(names, row, sheet) for names, row, sheet in placed if all([name in names for name in atom[1]])]
        marks.append((numbers, [(names, _sides(sheet, row, atom)) for names, row, sheet in over]))
    return (book[3], atoms, first, marks)


def _sides(sheet, row, atom):
    """Return a dict that gives each side of an atom the bits that it leaves."""
    if sheet is None:
        return {TRUE: 0, FALSE: 0}
    return {side: fitting(sheet, row, atom, side) for side in (TRUE, FALSE)}


def first_node(plan):
    """Return the node of a search at which nothing is told.

    A node is (told, left, leaf): the dict of what is told, the dict of the bits that are left for each set of
    names, and the leaf of a shut tree that shuts the node, or None.
    """
    singles = [names for names in plan[2] if len(names) == 1]
    return ({}, plan[2], _leaf(plan[0], list(range(len(plan[0]))), {}, plan[2], singles))


def next_node(plan, node, side):
    """Return the node behind a choice: the first atom that is not told at a node has this side."""
    at = len(node[0])
    numbers, over = plan[3][at]
    told = more(node[0], plan[1][at], side)
    left = {names: node[1][names] for names in node[1]}
    for names, sides in over:
        left[names] = left[names] & sides[side]
    return (told, left, _leaf(plan[0], numbers, told, left, [names for names, _ in over]))


def _leaf(facts, numbers, told, left, sets):
    """Return a leaf for the first of these facts that is false, or of these sets that is shut, or None."""
    for number in numbers:
        if worth(facts[number], told) == FALSE:
            return ("fact", number)
    shut = [names for names in sets if left[names] == 0]
    if shut:
        standing = [names_of(atom) for atom in told if told[atom] == TRUE]
        shut = [names for names in shut if len(names) == 1 or names in standing]
    return ("set", shut[0]) if shut else None


def first_root(plan):
    """Return the first root of the plain search, or None, or raise TooMany."""
    return next_root(plan, first_choices(plan), 0)[0]


def first_choices(plan):
    """Return the list with which the plain search begins: pairs of a node and the side to choose there, or None."""
    return [(first_node(plan), None)]


def next_root(plan, pending, made):
    """Go on with the plain search behind the pending choices, where so many choices were made; or raise TooMany.

    Return a root or None, the choices that are pending then, and the number of choices made.
    """
    stack = list(pending)
    while stack:
        node, side = stack.pop()
        if side is not None:
            node = next_node(plan, node, side)
            made = made + 1
            if made > MOST_CHOICES:
                raise TooMany()
        if node[2] is None and len(node[0]) == len(plan[1]):
            return (tuple([atom for atom in plan[1] if node[0][atom] == TRUE]), stack, made)
        if node[2] is None:
            stack.extend([(node, TRUE), (node, FALSE)])
    return (None, stack, made)


def shut_tree(plan, node):
    """Return the shut tree below a node of a search that finds no root."""
    if node[2] is not None:
        return node[2]
    trees = [shut_tree(plan, next_node(plan, node, side)) for side in (TRUE, FALSE)]
    return ("atom", plan[1][len(node[0])], trees[0], trees[1])
