"""Papers for what follows by plain rules, as lines, and for what does not, as a family of closed sets."""

from bagkinds.forms import new, places_of, shared
from bagkinds.formulas import all_terms, term_sorts
from bagkinds.kinds import atoms_over, is_lawful, moved_atoms, placings_of
from bagkinds.languages import are_numbers, is_ascending, is_number, is_row
from bagkinds.plain import (
    BELOW, CLASH, GIVEN, RULE, begun_by, check_plain, closed_book, distinct, given_by, led, placed, premises_of,
    told_facts,
)
from bagkinds.roots import names_of, root_sets
from bagkinds.stores import atom_table, picked, standing
from bagkinds.tables import sheets_of

MOST_SLOTS = 4
# How many parts each reason has.
SIZES = {"given": 1, "rule": 4, "below": 6}


def derive(book, atom):
    """Return a paper for what follows, or None if it does not; or raise NotPlain or TooMany."""
    closing = closed_book(book)
    writing = Writing(closing)
    has = closing.names.has
    if atom in has or CLASH in has:
        return writing.paper(atom if atom in has else CLASH)
    clashing = closing.clashing()
    if not clashing:
        return None
    seats = dict(closing.once_seats())
    set_number, places = seats[clashing[0]]
    key = writing.key(set_number, turned(places), CLASH)
    numbers, lines = writing.lines([key])
    return (((clashing[0], numbers[key], CLASH),), lines)


def turned(places):
    """Return the tuple that leads back from the places that a row of slots has been given."""
    return tuple([places.index(slot) for slot in range(len(places))])


class Writing:
    """A paper while it is written from a closing.

    A line has a key: (time, number of a set, order, gained), where order gives the slots of the set their slots in the
    line. What it refers to was gained before it, so lines in the order of their keys refer to earlier ones.
    """

    def __init__(self, closing):
        self.closing = closing

    def key(self, number, order, gained):
        """Return the key of the line for what a set has gained."""
        return (self.closing.sets[number].has[gained][0], number, order, gained)

    def paper(self, goal):
        """Return the steps and the lines for what the names have gained."""
        has = self.closing.names.has
        if has[goal][1][0] == GIVEN:
            names = names_of(goal)
            gained = led(goal, {name: slot for slot, name in enumerate(names)})
            line = (picked(self.closing.names.sorts, names), (gained,), gained, (GIVEN,))
            return (((names, 0, goal),), (line,))
        steps = self.steps_for(goal)
        numbers, lines = self.lines([key for _, key, _ in steps])
        return (tuple([(names, numbers[key], gained) for names, key, gained in steps]), lines)

    def steps_for(self, goal):
        """Return the list of the steps for what the names have gained, with keys of lines, in the order of time."""
        has = self.closing.names.has
        found = {}
        waiting = [goal]
        while waiting:
            gained = waiting.pop()
            time, reason = has[gained]
            if reason[0] != GIVEN and time not in found:
                _, (_, names), number, places, below = reason
                found[time] = (names, self.key(number, turned(places), below), gained)
                back = dict(zip(places, names))
                waiting.extend([led(atom, back) for atom in self.closing.sets[number].begun])
        return [found[time] for time in sorted(found)]

    def sources(self, key):
        """Return the list of the keys of lines for the same set that a line refers to, and that of those below."""
        _, number, order, gained = key
        gathering = self.closing.sets[number]
        reason = gathering.has[gained][1]
        if reason[0] == GIVEN:
            return ([], [])
        form_number, way = form_and_way(gathering, reason)
        values = dict(zip(self.closing.terms[form_number], way))
        told = [placed(atom, values) for atom in self.closing.premises[form_number]]
        below = []
        if reason[0] == BELOW:
            _, (_, slots), inner, places, found = reason
            begun = moved_atoms(self.closing.outline(form_number, slots)[1], places)
            back = dict(zip(places, distinct(slots)))
            told.extend([led(atom, back) for atom in self.closing.sets[inner].begun if atom not in begun])
            below.append(self.key(inner, tuple(range(len(places))), found))
        return (sorted({self.key(number, order, atom) for atom in told}), below)

    def lines(self, goals):
        """Return a dict that gives the keys of all lines that are needed their numbers, and the tuple of the lines."""
        known = {}
        waiting = list(goals)
        while waiting:
            key = waiting.pop()
            if key not in known:
                known[key] = self.sources(key)
                waiting.extend(known[key][0] + known[key][1])
        order = sorted(known)
        numbers = {key: number for number, key in enumerate(order)}
        lines = []
        for key in order:
            same, below = [[numbers[other] for other in others] for others in known[key]]
            lines.append(self.written(key, tuple(same), below))
        return (numbers, tuple(lines))

    def written(self, key, same, below):
        """Return a line that refers to these numbers."""
        _, number, order, gained = key
        gathering = self.closing.sets[number]
        told = gathering.has[gained][1]
        reason = (GIVEN,)
        if told[0] != GIVEN:
            form_number, way = form_and_way(gathering, told)
            reason = (told[0], form_number, picked(order, way), same)
        if told[0] == BELOW:
            _, (_, slots), _, places, _ = told
            reason = reason + (below[0], picked(places, self.closing.outline(form_number, slots)[2]))
        sorts = picked(gathering.sorts, turned(order))
        return (sorts, moved_atoms(gathering.begun, order), led(gained, dict(enumerate(order))), reason)


def form_and_way(gathering, reason):
    """Return the number of the form of a reason that is not that an atom was given, and the way it was used in."""
    if reason[0] == RULE:
        return reason[1:]
    return (reason[1][0], gathering.asks[reason[1]])


def check_derived(book, atom, value):
    """Tell whether any value is a paper by which an atom over names, or "clash", follows; or raise NotPlain."""
    check_plain(book[1], book[3])
    if not is_row(value, 2) or type(value[0]) is not tuple or type(value[1]) is not tuple:
        return False
    steps, lines = value
    for at in range(len(lines)):
        if not _is_line(book, lines, at):
            return False
    known = {fact[1:]: True for fact in book[3]}
    for step in steps:
        if not _is_step(book, lines, known, step):
            return False
        known[step[2]] = True
    return len(steps) > 0 and steps[-1][2] in (atom, CLASH)


def is_atom_over(language, sorts, value):
    """Tell whether any value is an atom, as a pair, over slots or names of these sorts."""
    if not is_row(value, 2) or not is_number(value[0], 0, len(language[1]) - 1):
        return False
    return are_numbers(value[1], 0, len(sorts) - 1) and picked(sorts, value[1]) == language[1][value[0]][1]


def is_gained(language, sorts, value):
    """Tell whether any value is an atom over slots or names of these sorts, or "clash"."""
    return value == CLASH or is_atom_over(language, sorts, value)


def are_atoms_over(language, sorts, value):
    """Tell whether any value is an ascending tuple of atoms over slots or names of these sorts."""
    if type(value) is not tuple or not all([is_atom_over(language, sorts, atom) for atom in value]):
        return False
    return is_ascending(value)


def are_sorts(language, value):
    """Tell whether any value is a tuple of one to four sorts."""
    return are_numbers(value, 0, language[0] - 1) and 1 <= len(value) <= MOST_SLOTS


def _is_line(book, lines, at):
    """Tell whether a line is right, where the lines before it are."""
    language, forms, _, _ = book
    line = lines[at]
    if not is_row(line, 4) or not are_sorts(language, line[0]) or not are_atoms_over(language, line[0], line[1]):
        return False
    sorts, atoms, gained, reason = line
    if not is_gained(language, sorts, gained) or type(reason) is not tuple or len(reason) == 0:
        return False
    if type(reason[0]) is not str or SIZES.get(reason[0], 0) != len(reason):
        return False
    if reason[0] == GIVEN:
        return gained in atoms
    if not is_number(reason[1], 0, len(forms) - 1) or forms[reason[1]][0] == "once":
        return False
    form = forms[reason[1]]
    values = _values_of(language, form[1], sorts, reason[2])
    told = _gained_by(lines, at, reason[3])
    if values is None or told is None or not all([placed(atom, values) in told for atom in premises_of(form)]):
        return False
    if reason[0] == RULE:
        return form[0] == "all" and gained == given_by(form, values)
    return form[0] == "some" and _is_below(language, lines, at, form, picked_values(form, values), told)


def _values_of(language, guard, sorts, value):
    """Return a dict that gives the terms of a guard the slots of any value; None if these are not right for them."""
    wanted = term_sorts(language, guard, ())
    if not are_numbers(value, 0, len(sorts) - 1) or picked(sorts, value) != tuple([sort for _, sort in wanted]):
        return None
    return dict(zip(all_terms(guard), value))


def picked_values(form, values):
    """Return the tuple of the slots of the shared variables of a form."""
    return tuple([values[term] for term in shared(form)])


def _gained_by(lines, at, value):
    """Return a dict with what the lines with these numbers have gained.

    It is None if any value is no tuple of numbers of earlier lines for the same sorts and atoms.
    """
    if not are_numbers(value, 0, at - 1) or not all([lines[number][:2] == lines[at][:2] for number in value]):
        return None
    return {lines[number][2]: True for number in value}


def _is_below(language, lines, at, form, slots, told):
    """Tell whether a line gains what a line about a set begun below gains; slots are those of the shared variables."""
    _, _, gained, (_, _, _, _, number, places) = lines[at]
    if not is_number(number, 0, at - 1):
        return False
    sorts, atoms, inner, _ = lines[number]
    values = _values_of(language, form[3], sorts, places)
    if values is None or len(set(places)) < len(sorts):
        return False
    held = picked_values(form, values)
    fresh = [values[term] for term in new(form)]
    if len(set(fresh)) < len(fresh) or any([slot in held for slot in fresh]):
        return False
    if [held.index(slot) for slot in held] != [slots.index(slot) for slot in slots]:
        return False
    begun = moved_atoms(begun_by(language, form, slots)[1], distinct(held) + tuple(fresh))
    if not all([atom in atoms for atom in begun]):
        return False
    back = dict(zip(held, slots))
    if not all([atom in begun or led(atom, back) in told for atom in atoms]):
        return False
    return gained == led(inner, back)


def _is_step(book, lines, known, value):
    """Tell whether any value is a right step, where known has the facts and what was gained before."""
    if not is_row(value, 3) or not is_number(value[1], 0, len(lines) - 1):
        return False
    sorts, atoms, gained, _ = lines[value[1]]
    if type(value[0]) is not tuple:
        return value[2] == CLASH and gained == CLASH and _is_begun(book, value[0], sorts, atoms)
    names = value[0]
    if not are_numbers(names, 0, len(book[2]) - 1) or not is_ascending(names) or picked(book[2], names) != sorts:
        return False
    table = dict(enumerate(names))
    if not all([led(atom, table) in known for atom in atoms]):
        return False
    return is_gained(book[0], book[2], value[2]) and value[2] == led(gained, table)


def _is_begun(book, number, sorts, atoms):
    """Tell whether any value is the number of a "once" form whose set has these sorts, and all these atoms."""
    if not is_number(number, 0, len(book[1]) - 1) or book[1][number][0] != "once":
        return False
    row, begun, _ = begun_by(book[0], book[1][number], ())
    return row == sorts and all([atom in begun for atom in atoms])


def bar(book, atom):
    """Return a paper for what does not follow, or None if it does; or raise NotPlain or TooMany."""
    closing = closed_book(book)
    facts = told_facts(closing)
    if facts == CLASH or atom in facts:
        return None
    family = {(row.sorts, tuple(sorted(row.has))): True for row in closing.sets}
    for names in root_sets(book, facts):
        family[(picked(book[2], names), atoms_over((book[2], facts), names))] = True
    return (facts, tuple(sorted(family)))


def check_bar(book, atom, value):
    """Tell whether any value is a paper by which an atom over names, or "clash", does not follow; or raise NotPlain."""
    check_plain(book[1], book[3])
    language, forms, names, facts = book
    if not is_row(value, 2) or not are_atoms_over(language, names, value[0]) or type(value[1]) is not tuple:
        return False
    told, family = value
    if atom in told or not all([fact[1:] in told for fact in facts]):
        return False
    if not all([_is_pair(language, pair) for pair in family]):
        return False
    known = {pair: True for pair in family}
    for row in root_sets(book, told):
        if (picked(names, row), atoms_over((names, told), row)) not in known:
            return False
    if not all([is_lawful(forms, pair) for pair in known]):
        return False
    return Lodging(language, forms, list(known)).all_lie()


def _is_pair(language, value):
    """Tell whether any value is a pair of sorts and what a set has over slots of them."""
    return is_row(value, 2) and are_sorts(language, value[0]) and are_atoms_over(language, value[0], value[1])


class Lodging:
    """A family of sets that is searched for one in which a begun set lies.

    sheets gives each row of sorts that do not fall the list of the sheets of the sets with these sorts, in all
    numberings. known tells of what was looked for whether it was found.
    """

    def __init__(self, language, forms, family):
        self.language = language
        self.forms = forms
        self.family = family
        self.known = {}
        self.sheets = {}
        spread = {}
        for sorts, has in family:
            for placing in placings_of(sorts):
                spread[(tuple(sorted(sorts)), moved_atoms(has, placing))] = True
        for sheet in sheets_of(list(spread)):
            self.sheets.setdefault(sheet[0], []).append(sheet)

    def all_lie(self):
        """Tell whether each set that a "once" form begins, or that is begun below one of the family, lies in one."""
        for number, form in enumerate(self.forms):
            if form[0] == "once" and not self.lies(number, (), ()):
                return False
        return all([self.is_served(pair) for pair in self.family])

    def is_served(self, pair):
        """Tell whether each set that is begun below one of the family lies in one of the family."""
        table = atom_table(pair[1])
        for number, form in enumerate(self.forms):
            if form[0] == "some":
                held = places_of(shared(form), form[1])
                rows = {picked(way, held): True for way in standing(pair[0], table, form[1], form[2])}
                for slots in rows:
                    if not self.lies(number, slots, atoms_over(pair, distinct(slots))):
                        return False
        return True

    def lies(self, number, slots, over):
        """Tell whether the set that a form begins lies in one of the family with just so much over the shared slots."""
        key = (number, tuple([slots.index(slot) for slot in slots]), over)
        if key not in self.known:
            sorts, atoms, _ = begun_by(self.language, self.forms[number], slots)
            placing = placings_of(sorts)[0]
            held = placing[:len(distinct(slots))]
            begun = moved_atoms(tuple(sorted(set(atoms + over))), placing)
            sheets = self.sheets.get(tuple(sorted(sorts)), [])
            self.known[key] = any([_lies_on(sheet, begun, held, moved_atoms(over, placing)) for sheet in sheets])
        return self.known[key]


def _lies_on(sheet, begun, held, over):
    """Tell whether a set of a sheet has all that was begun, and over the held slots nothing that is not over them."""
    bits = sheet[3]
    for atom in begun:
        bits = bits & sheet[2].get(atom, 0)
    for atom in sheet[2]:
        if bits != 0 and atom not in over and all([slot in held for slot in atom[1]]):
            bits = bits & ~sheet[2][atom]
    return bits != 0
