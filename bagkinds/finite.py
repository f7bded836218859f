"""Finite stores that keep a book, built of chunks: trees of bags below a thing, a need or a "once" form.

A chunk that is for a thing is the same for all things that are alike in it: it is copied once for each colour, and
a thing of one colour has the copy of the next. With three colours no two chunks tell of the same two things.
"""

from bagkinds.errors import TooMany
from bagkinds.growing import MOST_THINGS, held_slots, numbered_store, numbers_by_sort, shared_slots
from bagkinds.kinds import is_lawful
from bagkinds.needs import at_home, needs, view
from bagkinds.ranks import bits_of, handed, is_wide, last_ranking
from bagkinds.roots import facts_hold, first_choices, next_root, plan_of, root_sets, seated
from bagkinds.stores import MOST_ATOMS, atom_table, picked, standing
from bagkinds.tables import greatest_table, head_rows, kinds_at

NEXT_COLOUR = (1, 2, 0)
LAST_COLOUR = 2
# The thing of a chunk that each thing which has the chunk stands for.
HERE = -1


def is_good(book, root):
    """Tell whether a root is good for a finite store, or raise TooMany."""
    ranking, starting = last_ranking(book[1], greatest_table(book[0], book[1]))
    return Plans(book, ranking, starting).for_names(root) is not None


def finite_store(book):
    """Return a finite store that keeps the book and the places of the names, or None, or raise TooMany."""
    table = greatest_table(book[0], book[1])
    search = plan_of(book, table)
    ranking, starting = last_ranking(book[1], table)
    plans = Plans(book, ranking, starting)
    if not all([plans.for_once(form) is not None for form in book[1] if form[0] == "once"]):
        return None
    root, pending, made = next_root(search, first_choices(search), 0)
    while root is not None:
        below = plans.for_names(root)
        if below is not None:
            return Building(plans).whole(root, below)
        root, pending, made = next_root(search, pending, made)
    return None


class Plans:
    """What chunks are chosen for the needs of a book, which is called base here.

    A plan for a chunk is what choices of a Ranking has: (things of the tree, kind, way, pair).
    """

    def __init__(self, book, ranking, starting):
        self.base = book
        self.ranking = ranking
        self.begin = bits_of(ranking.sheets, starting)
        self.narrow = {}
        self.lacks = {}

    def best(self, form, rows):
        """Return the plan of the least tree that begins with a starting kind of these rows, or None.

        The rows are triples of a sheet number, a way for the head of the form and the bits of kinds. Of the least
        trees it is one with the fewest narrow needs in its first bag, as these ask for chunks of their own.
        """
        found = []
        for place, way, bits in rows:
            held = len(set(shared_slots(form, way)))
            for kind in kinds_at(self.ranking.sheets[place], bits & self.begin[place]):
                pair = (kind, ())
                found.append((len(kind[0]) - held + self.ranking.costs[pair], kind, way, pair))
        least = min([plan[0] for plan in found], default=None)
        fewest = [(len(self.lacking(plan[1])), plan) for plan in found if plan[0] == least]
        return min(fewest)[1] if fewest else None

    def for_once(self, form):
        """Return the plan for a "once" form, or None."""
        rows = []
        for place, sheet in enumerate(self.ranking.sheets):
            rows.extend([(place, way, bits) for way, bits in head_rows(sheet, form, False)])
        return self.best(form, rows)

    def for_narrow(self, key):
        """Return the plan for the narrow needs with this key, or None."""
        if key not in self.narrow:
            self.narrow[key] = self.best(self.base[1][key[0]], self.ranking.offered.get(key, ()))
        return self.narrow[key]

    def lacking(self, kind):
        """Return the list of pairs of the slots and the key of each narrow need of a kind that is not met at home."""
        if kind not in self.lacks:
            found = []
            for need in needs(self.base[1], kind):
                if not is_wide(need) and not at_home(self.base[1], need, kind):
                    found.append((need[1], (need[0], view(kind, need[1]))))
            self.lacks[kind] = found
        return self.lacks[kind]

    def for_wide(self, ask):
        """Return the plan for a wide need with this ask, or None."""
        self.ranking.explore([row[3] for row in self.ranking.meets_of(ask)])
        self.ranking.choose([ask])
        return self.ranking.choices.get(ask, None)

    def for_names(self, root):
        """Return the list of pairs of a need of names that is not met among them and its plan; None if one has none.

        It is None as well if a fact is not true or a kind of names is not lawful, so exactly if the root is not good.
        """
        asked = self.needs_of_names(root)
        if asked is None:
            return None
        wide = [need for need in asked if is_wide(need)]
        met = met_among(self.base, root)
        found = []
        for need in asked:
            if need not in met:
                seen = view((self.base[2], root), need[1])
                if is_wide(need):
                    plan = self.for_wide((need[0], seen, handed(wide, need[1])))
                else:
                    plan = self.for_narrow((need[0], seen))
                if plan is None:
                    return None
                found.append((need, plan))
        return found

    def needs_of_names(self, root):
        """Return the ascending list of the needs of names, with the names in the place of slots.

        It is None if a fact is not true or a kind of a guarded set of names is not lawful.
        """
        if not facts_hold(self.base, root):
            return None
        forms = self.base[1]
        found = {}
        for names in root_sets(self.base, root):
            kind, places = seated(self.base, root, names)
            if not is_lawful(forms, kind):
                return None
            for number, slots in needs(forms, kind):
                found[(number, tuple([names[places.index(slot)] for slot in slots]))] = True
        return sorted(found)


def met_among(book, root):
    """Return a dict that has those needs of names, whether they have them or not, that are met among the names."""
    found = {}
    for number, form in enumerate(book[1]):
        if form[0] == "some":
            for names in standing(book[2], atom_table(root), form[3], form[4]):
                found[(number, shared_slots(form, names))] = True
    return found


class Building:
    """A finite store while it is built, with things in the order in which they came, and a colour for each.

    met has the narrow needs, as pairs of a thing (None for a need without slots) and the number of a form, that have
    their chunk; waiting is the list of pairs of a thing and a key that are still to get theirs. copies gives a key
    and a colour the atoms of the copy that have HERE and the keys of the needs at HERE.
    """

    def __init__(self, plans):
        self.plans = plans
        self.forms = plans.base[1]
        self.sorts = []
        self.colours = []
        self.atoms = {}
        self.met = {}
        self.waiting = []
        self.copies = {}

    def whole(self, root, below):
        """Return the whole store over a good root, with these plans for needs of names, and the places."""
        language, _, names, _ = self.plans.base
        for sort in names:
            self.new_thing(sort, LAST_COLOUR)
        self.put(root)
        for number, row in met_among(self.plans.base, root):
            if not is_wide((number, row)):
                self.met[(spot_of(row), number)] = True
        for (number, row), (_, _, way, pair) in below:
            if is_wide((number, row)):
                self.lay(pair, held_slots(self.forms[number], row, way), LAST_COLOUR)
            else:
                self.waiting.append((spot_of(row), (number, view((names, root), row))))
        for form in self.forms:
            if form[0] == "once":
                self.lay(self.plans.for_once(form)[3], {}, LAST_COLOUR)
        while self.waiting:
            self.meet(self.waiting.pop())
        numbers = numbers_by_sort(self.sorts)
        return (numbered_store(language[0], self.sorts, self.atoms), tuple(numbers[:len(names)]))

    def new_thing(self, sort, colour):
        """Return a new thing, or raise TooMany."""
        if len(self.sorts) == MOST_THINGS:
            raise TooMany()
        self.sorts.append(sort)
        self.colours.append(colour)
        return len(self.sorts) - 1

    def put(self, atoms):
        """Let atoms over things stand, or raise TooMany."""
        for atom in atoms:
            self.atoms[atom] = True
        if len(self.atoms) > MOST_ATOMS:
            raise TooMany()

    def lay(self, pair, held, colour):
        """Lay a tree of bags that begins with a pair, and with the things held on some slots of its kind.

        Return the list of the atoms that have HERE, and the list of the keys of the needs at HERE.
        """
        atoms, keys = [], []
        queue = [(pair, held)]
        while queue:
            pair, held = queue.pop()
            kind, settled = pair
            things = [held[slot] if slot in held else self.new_thing(sort, colour) for slot, sort in enumerate(kind[0])]
            told = [(relation, picked(things, slots)) for relation, slots in kind[1]]
            atoms.extend([atom for atom in told if HERE in atom[1]])
            self.put([atom for atom in told if HERE not in atom[1]])
            lacking = [(spot_of(picked(things, slots)), key) for slots, key in self.plans.lacking(kind)]
            keys.extend([key for spot, key in lacking if spot == HERE])
            self.waiting.extend([(spot, key) for spot, key in lacking if spot != HERE])
            for need, ask in self.plans.ranking.asks[kind]:
                if need not in settled:
                    _, _, way, below = self.plans.ranking.choices[ask]
                    queue.append((below, held_slots(self.forms[need[0]], picked(things, need[1]), way)))
        return (atoms, keys)

    def meet(self, asked):
        """Give a thing the chunk that meets a narrow need, a pair of the thing and the key, if it has none."""
        spot, key = asked
        if (spot, key[0]) in self.met:
            return
        self.met[(spot, key[0])] = True
        _, _, way, pair = self.plans.for_narrow(key)
        if spot is None:
            self.lay(pair, {}, LAST_COLOUR)
            return
        place = (key, NEXT_COLOUR[self.colours[spot]])
        if place not in self.copies:
            held = {slot: HERE for slot in shared_slots(self.forms[key[0]], way)}
            self.copies[place] = self.lay(pair, held, place[1])
        atoms, keys = self.copies[place]
        self.put([(relation, tuple([spot if thing == HERE else thing for thing in row])) for relation, row in atoms])
        self.waiting.extend([(spot, other) for other in keys])


def spot_of(row):
    """Return the one thing of the slots of a narrow need, or None if it has no slots."""
    return row[0] if row else None
