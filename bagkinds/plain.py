"""Plain rules: what follows from them, worked out by closing sets of atoms over slots.

Sets that differ by renumbering of their slots are one: a set has the slots of the kind that it begins with. The names
of a book are the slots of a wider set; it is not closed by rules itself, but by the sets below it, one for each of
its guarded sets of names.
"""

from bagkinds.errors import NotPlain, TooMany
from bagkinds.forms import new, places_of, shared
from bagkinds.formulas import all_terms, term_sorts
from bagkinds.kinds import canonical
from bagkinds.stores import picked

CLASH = "clash"
GIVEN = "given"
RULE = "rule"
BELOW = "below"
# It stands in the place of the number of a form where a set is asked for by names.
AT_NAMES = -1
# The document lets a call be given up beyond 2000 sets when it is worked in rounds. Here a set asks for those below
# it only when nothing else is left to gain, which begins fewer of them, but other ones: so there is some room.
MOST_SETS = 6000


def is_plain(form):
    """Tell whether a form is plain."""
    if form[0] == "all":
        return _is_plain_rule(form[2])
    return _is_plain_condition(form[-1]) and (form[0] == "once" or _is_plain_condition(form[2]))


def _is_plain_rule(condition):
    if condition[0] == "not":
        return _is_plain_condition(condition[1])
    if condition[0] != "or" or len(condition[1]) != 2:
        return False
    barred, given = condition[1]
    return barred[0] == "not" and _is_plain_condition(barred[1]) and given[0] == "atom"


def _is_plain_condition(condition):
    return condition[0] == "and" and all([part[0] == "atom" for part in condition[1]])


def check_plain(forms, facts):
    """Raise NotPlain for the first form that is not plain or the first fact that is no atom."""
    for number, form in enumerate(forms):
        if not is_plain(form):
            raise NotPlain(number)
    for number, fact in enumerate(facts):
        if fact[0] != "atom":
            raise NotPlain(len(forms) + number)


def premises_of(form):
    """Return the tuple of the atoms that must stand for an "all" or "some" form: those of its guard and its front."""
    front = form[2]
    if front[0] == "or":
        front = front[1][0]
    if front[0] == "not":
        front = front[1]
    return atoms_of(form[1], front)


def atoms_of(guard, condition):
    """Return the tuple of the atoms of a guard and a plain condition."""
    return ((guard,) if guard[0] == "atom" else ()) + condition[1]


def placed(atom, values):
    """Return an atom of a formula as a pair, with a dict that gives its terms slots or names."""
    return (atom[1], tuple([values[term] for term in atom[2]]))


def given_by(form, values):
    """Return what an "all" form gives: an atom as a pair, or "clash"."""
    return placed(form[2][1][1], values) if form[2][0] == "or" else CLASH


def led(gained, table):
    """Return what is gained with each slot replaced as a dict tells; None if it has a slot that is not told."""
    if gained == CLASH:
        return CLASH
    if not all([slot in table for slot in gained[1]]):
        return None
    return (gained[0], tuple([table[slot] for slot in gained[1]]))


def distinct(slots):
    """Return the tuple of the different ones of some slots, in the order in which they come first."""
    return tuple([slot for place, slot in enumerate(slots) if slots.index(slot) == place])


def begun_by(language, form, slots):
    """Return the sorts and the atoms of the set that a head and its e begin, and the slots of the head's variables.

    slots are those of the shared variables in the set above. The set has a slot for each different one of them, by
    the variables, and then one for each new variable. What the set above has over them is not among the atoms.
    """
    sort_of = dict(term_sorts(language, form[-2], ()))
    held = distinct(slots)
    places = {term: held.index(slot) for term, slot in zip(shared(form), slots)}
    for place, term in enumerate(new(form)):
        places[term] = len(held) + place
    sorts = {places[term]: sort_of[term] for term in places}
    atoms = sorted({placed(atom, places) for atom in atoms_of(form[-2], form[-1])})
    row = tuple([sorts[slot] for slot in sorted(sorts)])
    return (row, tuple(atoms), tuple([places[term] for term in sorted(places)]))


class Gathering:
    """A set of atoms over slots while it is closed.

    has gives what it gained, atoms and "clash", a pair of the time and the reason; rows gives a relation the slots of
    its atoms, and groups gives the sets of slots of atoms, as ascending tuples, the atoms over them. asks gives the
    pairs of the number of a form and the slots of its shared variables, for each way that was found, the first such
    way; told gives them the atoms over these slots with which it was asked last, and the number of the set below.
    above tells, by the number of a gathering and such a pair, who asks for this set: the gathering, the pair, the slots
    here of the slots as asked for, and a dict that gives those of them that are shared their slots in that gathering.
    """

    def __init__(self, number, sorts, begun):
        self.number = number
        self.sorts = sorts
        self.begun = begun
        self.has = {}
        self.rows = {}
        self.groups = {}
        self.asks = {}
        self.told = {}
        self.above = {}

    def over(self, slots):
        """Return the list of the atoms over some of these slots."""
        return [atom for row in self.groups if all([slot in slots for slot in row]) for atom in self.groups[row]]


class Closing:
    """The family of sets that is come to by closing.

    names is the gathering of the names, sets are the other ones. uses gives a relation the pairs of the number of a
    form and the terms with which the relation occurs among its premises. waiting has what was gained and has not
    been used yet; changed has the numbers of the sets whose asks are to be looked at again.
    """

    def __init__(self, language, forms, names):
        self.language = language
        self.forms = forms
        self.terms = [all_terms(form[1]) for form in forms]
        self.premises = [() if form[0] == "once" else premises_of(form) for form in forms]
        self.uses = {}
        for number, atoms in enumerate(self.premises):
            for _, relation, terms in atoms:
                self.uses.setdefault(relation, []).append((number, terms))
        self.names = Gathering(AT_NAMES, names, ())
        self.sets = []
        self.number_of = {}
        self.seats = {}
        self.outlines = {}
        self.waiting = []
        self.changed = {}
        self.time = 0

    def begin_set(self, sorts, atoms):
        """Return the number of the set that begins with these atoms, an ascending tuple, and the slots there.

        It raises TooMany if there are too many sets.
        """
        asked = (sorts, atoms)
        if asked not in self.seats:
            kind, places = canonical(self.language, sorts, atoms)
            if kind not in self.number_of:
                self.number_of[kind] = len(self.sets)
                self.begin_kind(kind)
            self.seats[asked] = (self.number_of[kind], places)
        return self.seats[asked]

    def begin_kind(self, kind):
        """Begin a further set, or raise TooMany."""
        if len(self.sets) == MOST_SETS:
            raise TooMany()
        gathering = Gathering(len(self.sets), kind[0], kind[1])
        self.sets.append(gathering)
        self.changed[gathering.number] = True
        for atom in kind[1]:
            self.gain(gathering, atom, (GIVEN,))
        for number, form in enumerate(self.forms):
            if form[0] != "once" and form[1][0] == "sort":
                for slot, sort in enumerate(kind[0]):
                    if sort == form[1][1]:
                        self.try_ways(gathering, number, {form[1][2]: slot})

    def begin_names(self, facts):
        """Let facts stand among the names, and ask for the sets of all single names."""
        self.changed[AT_NAMES] = True
        for name in range(len(self.names.sorts)):
            self.names.asks[(AT_NAMES, (name,))] = (name,)
        for fact in facts:
            self.gain(self.names, fact[1:], (GIVEN,))

    def gain(self, gathering, gained, reason):
        """Let a gathering have what it gained; one that clashes needs nothing further."""
        if gained in gathering.has or CLASH in gathering.has:
            return
        self.time = self.time + 1
        gathering.has[gained] = (self.time, reason)
        if gained != CLASH:
            gathering.rows.setdefault(gained[0], []).append(gained[1])
            gathering.groups.setdefault(tuple(sorted(set(gained[1]))), []).append(gained)
        self.changed[gathering.number] = True
        self.waiting.append((gathering, gained))

    def settle(self):
        """Go on until nothing is gained and nothing asked for, or raise TooMany."""
        while self.waiting or self.changed:
            while self.waiting:
                gathering, gained = self.waiting.pop()
                self.spread(gathering, gained)
            numbers = sorted(self.changed)
            self.changed = {}
            for number in numbers:
                self.ask(self.names if number == AT_NAMES else self.sets[number])

    def spread(self, gathering, gained):
        """Use what a gathering has gained, there and above it."""
        for link in list(gathering.above.values()):
            self.lead_back(gathering, link, gained)
        if gained == CLASH:
            return
        relation, slots = gained
        if gathering.number == AT_NAMES:
            names = tuple(sorted(set(slots)))
            gathering.asks[(AT_NAMES, names)] = names
        else:
            for number, terms in self.uses.get(relation, ()):
                self.try_ways(gathering, number, fitted({}, terms, slots))

    def try_ways(self, gathering, number, values):
        """Use a form in all ways in which some of the terms of its guard have these slots; values may be None."""
        form, terms = self.forms[number], self.terms[number]
        told = [values]
        if values is not None and len(values) < len(terms):
            told = [fitted(values, form[1][2], row) for row in gathering.rows.get(form[1][1], ())]
        for whole in told:
            if whole is not None and all([placed(atom, whole) in gathering.has for atom in self.premises[number]]):
                self.use(gathering, number, whole)

    def use(self, gathering, number, values):
        """Use a form whose premises stand in a gathering."""
        form = self.forms[number]
        way = tuple([values[term] for term in self.terms[number]])
        if form[0] == "all":
            self.gain(gathering, given_by(form, values), (RULE, number, way))
        else:
            gathering.asks.setdefault((number, picked(way, places_of(shared(form), form[1]))), way)

    def ask(self, gathering):
        """Ask for all sets below a gathering, where what it has over their shared slots is not what it was."""
        if CLASH in gathering.has:
            return
        over = {}
        for asked in list(gathering.asks):
            held = distinct(asked[1])
            if held not in over:
                place_of = {slot: place for place, slot in enumerate(held)}
                over[held] = tuple(sorted([led(atom, place_of) for atom in gathering.over(held)]))
            before, last = gathering.told.get(asked, (None, None))
            if before != over[held]:
                number, places = self.seat_below(asked[0], asked[1], over[held])
                gathering.told[asked] = (over[held], number)
                if last is not None:
                    # The set below that is asked for now has all that the last one has.
                    self.sets[last].above.pop((gathering.number, asked))
                self.link(self.sets[number], (gathering, asked, places, dict(zip(places, held))))

    def link(self, below, link):
        """Let a set below tell what it has, and what it gains from now on."""
        gathering, asked, _, back = link
        below.above[(gathering.number, asked)] = link
        for gained in below.over(back):
            self.lead_back(below, link, gained)
        if CLASH in below.has:
            self.lead_back(below, link, CLASH)

    def outline(self, number, slots):
        """Return what begun_by tells of a form; for names it is a set of them without atoms."""
        if number == AT_NAMES:
            return (picked(self.names.sorts, slots), (), tuple(range(len(slots))))
        key = (number, tuple([slots.index(slot) for slot in slots]))
        if key not in self.outlines:
            self.outlines[key] = begun_by(self.language, self.forms[number], slots)
        return self.outlines[key]

    def seat_below(self, number, slots, over):
        """Return the number of a set below one that has these atoms over the shared slots, and the slots there."""
        sorts, atoms, _ = self.outline(number, slots)
        return self.begin_set(sorts, tuple(sorted(set(atoms + over))))

    def lead_back(self, gathering, link, gained):
        """Let the one above gain what a set below it has gained, if it is over the shared slots alone."""
        above, asked, places, back = link
        found = led(gained, back)
        if found is not None:
            self.gain(above, found, (BELOW, asked, gathering.number, places, gained))

    def closed(self, seat):
        """Return what a set has, with the slots as asked for: an ascending tuple of atoms, or "clash"."""
        number, places = seat
        has = self.sets[number].has
        if CLASH in has:
            return CLASH
        back = {place: slot for slot, place in enumerate(places)}
        return tuple(sorted([led(atom, back) for atom in has]))

    def once_seats(self):
        """Return the list of pairs of the number of a "once" form and the seat of its set."""
        found = []
        for number, form in enumerate(self.forms):
            if form[0] == "once":
                found.append((number, self.seat_below(number, (), ())))
        return found

    def clashing(self):
        """Return the list of the numbers of the "once" forms whose sets clash."""
        return [number for number, seat in self.once_seats() if self.closed(seat) == CLASH]


def fitted(values, terms, row):
    """Return a dict that gives terms slots, with those of a row for these terms; None if it does not fit."""
    found = {term: values[term] for term in values}
    for term, slot in zip(terms, row):
        if found.setdefault(term, slot) != slot:
            return None
    return found


def closure(language, forms, sorts, atoms):
    """Return the ascending tuple of the atoms that follow over some slots, or "clash"; or raise NotPlain or TooMany."""
    check_plain(forms, ())
    closing = Closing(language, forms, ())
    seat = closing.begin_set(sorts, tuple(sorted(atoms)))
    closing.settle()
    return closing.closed(seat)


def once_clash(language, forms):
    """Return the ascending tuple of the "once" forms whose sets clash, or raise NotPlain or TooMany."""
    check_plain(forms, ())
    closing = Closing(language, forms, ())
    closing.once_seats()
    closing.settle()
    return tuple(closing.clashing())


def closed_book(book):
    """Return the closing of the facts and the "once" forms of a book, or raise NotPlain or TooMany."""
    language, forms, names, facts = book
    check_plain(forms, facts)
    closing = Closing(language, forms, names)
    closing.once_seats()
    closing.begin_names(facts)
    closing.settle()
    return closing


def closed_facts(book):
    """Return the ascending tuple of the atoms over names that follow, or "clash"; or raise NotPlain or TooMany."""
    return told_facts(closed_book(book))


def told_facts(closing):
    """Return the ascending tuple of the atoms that the names have in a closing, or "clash"."""
    if closing.clashing() or CLASH in closing.names.has:
        return CLASH
    return tuple(sorted(closing.names.has))
