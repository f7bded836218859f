"""The beginning of a store, grown bag by bag from a paper that says that there is one."""

from bagkinds.errors import TooMany
from bagkinds.forms import places_of, shared
from bagkinds.needs import needs
from bagkinds.roots import root_sets, seated
from bagkinds.stores import picked

MOST_THINGS = 2000
MOST_BAGS = 4000


def grow(book, decision, depth):
    """Return the store down to a depth, the places of the names and the bags, or raise TooMany."""
    _, root, kinds, meets, onces = decision
    growth = Growth()
    first = growth.put_bag(book[2], {}, root)
    level = _seats_in_first(book, root, kinds, first)
    for _, place, _ in onces:
        level.append((place, growth.put_bag(kinds[place][0], {}, kinds[place][1])))
    links = [_links(book[1], kind, pairs) for kind, pairs in zip(kinds, meets)] if depth > 0 else []
    for _ in range(depth):
        below = []
        for place, things in level:
            for other, held in links[place]:
                above = {slot: things[held[slot]] for slot in held}
                below.append((other, growth.put_bag(kinds[other][0], above, kinds[other][1])))
        level = below
    numbers = numbers_by_sort(growth.sorts)
    bags = tuple([picked(numbers, bag) for bag in growth.bags])
    return (numbered_store(book[0][0], growth.sorts, growth.atoms), bags[0], bags)


class Growth:
    """A store while it grows: the sorts of its things in the order in which they came, its bags and its atoms."""

    def __init__(self):
        self.sorts = []
        self.bags = []
        self.atoms = {}

    def put_bag(self, sorts, above, atoms):
        """Add a bag with slots of these sorts and these atoms over them, and return its things, or raise TooMany.

        above is a dict that gives some slots the things they have; the other ones get new things.
        """
        if len(self.bags) == MOST_BAGS:
            raise TooMany()
        things = []
        for slot, sort in enumerate(sorts):
            if slot in above:
                things.append(above[slot])
            else:
                things.append(len(self.sorts))
                self.sorts.append(sort)
        if len(self.sorts) > MOST_THINGS:
            raise TooMany()
        self.bags.append(things)
        for relation, slots in atoms:
            self.atoms[(relation, picked(things, slots))] = True
        return things


def _seats_in_first(book, root, kinds, first):
    """Return the list of pairs of the place of a kind and the things on its slots, for all guarded sets of names."""
    found = []
    for names in root_sets(book, root):
        kind, places = seated(book, root, names)
        things = [first[names[places.index(slot)]] for slot in range(len(places))]
        found.append((kinds.index(kind), things))
    return found


def _links(forms, kind, pairs):
    """Return what is below a bag of this kind, for each of its needs in order.

    It is the list of pairs of the place of the kind below and a dict that gives slots of it slots of the kind above.
    """
    found = []
    for (number, slots), (other, way) in zip(needs(forms, kind), pairs):
        found.append((other, held_slots(forms[number], slots, way)))
    return found


def held_slots(form, row, way):
    """Return a dict that gives the slots of the shared variables, as a way tells them, what a row has for these."""
    return dict(zip(shared_slots(form, way), row))


def shared_slots(form, way):
    """Return the slots that a way for the head of a form has for its shared variables."""
    return picked(way, places_of(shared(form), form[-2]))


def numbers_by_sort(sorts):
    """Return the list of the numbers of things when they are numbered sort by sort, each sort in the order given."""
    numbers = [0 for _ in sorts]
    for number, (_, thing) in enumerate(sorted([(sort, thing) for thing, sort in enumerate(sorts)])):
        numbers[thing] = number
    return numbers


def numbered_store(many, sorts, atoms):
    """Return the store, with so many sorts, of things of these sorts with these atoms, numbered sort by sort."""
    numbers = numbers_by_sort(sorts)
    told = [(relation, picked(numbers, things)) for relation, things in atoms]
    return (tuple([sorts.count(sort) for sort in range(many)]), tuple(sorted(told)))
