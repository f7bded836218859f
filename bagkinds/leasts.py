"""The beginning of the least store of a plain book, and maps from one store into another."""

from bagkinds.errors import TooMany
from bagkinds.forms import places_of, shared
from bagkinds.growing import Growth, numbered_store, numbers_by_sort
from bagkinds.kinds import atoms_over
from bagkinds.plain import closed_book, distinct, told_facts
from bagkinds.stores import atom_table, picked, standing, thing_sorts

# The document lets a search be given up beyond 20000 choices; trying a thing costs little, so it may go on for longer.
MOST_TRIES = 500000


def least_store(book, depth):
    """Return the least store down to a depth, the places of the names and the bags; or raise NotPlain or TooMany."""
    beginnings = Beginnings(closed_book(book))
    growth = Growth()
    names = (book[2], told_facts(beginnings.closing))
    level = [(names, growth.put_bag(names[0], {}, names[1]))]
    for whole in beginnings.for_onces():
        level.append((whole, growth.put_bag(whole[0], {}, whole[1])))
    for _ in range(depth):
        below = []
        for whole, things in level:
            for slots, part in beginnings.below(whole):
                above = {slot: things[held] for slot, held in enumerate(slots)}
                below.append((part, growth.put_bag(part[0], above, part[1])))
        level = below
    numbers = numbers_by_sort(growth.sorts)
    bags = tuple([picked(numbers, bag) for bag in growth.bags])
    return (numbered_store(book[0][0], growth.sorts, growth.atoms), bags[0], bags)


class Beginnings:
    """The closed sets that bags begin with, as pairs of sorts and atoms.

    known gives such a pair the list of what is below it: pairs of the different slots of shared variables and the pair
    below, which has these slots first.
    """

    def __init__(self, closing):
        self.closing = closing
        self.known = {}

    def for_onces(self):
        """Return the list of the pairs for the "once" forms, in order."""
        return [self.whole(number, (), ()) for number, _ in self.closing.once_seats()]

    def whole(self, number, slots, over):
        """Return the pair of the set that a form begins, with what stands over its shared slots above."""
        sorts, _, _ = self.closing.outline(number, slots)
        return (sorts, self.closing.closed(self.closing.seat_below(number, slots, over)))

    def below(self, above):
        """Return what is below a pair, for each "some" form and each way in order."""
        if above not in self.known:
            found = []
            for number, form in enumerate(self.closing.forms):
                if form[0] == "some":
                    held = places_of(shared(form), form[1])
                    for way in standing(above[0], atom_table(above[1]), form[1], form[2]):
                        slots = picked(way, held)
                        over = atoms_over(above, distinct(slots))
                        found.append((distinct(slots), self.whole(number, slots, over)))
            self.known[above] = found
        return self.known[above]


def map_into(first, places, second, others):
    """Return the least map of one store into another with some things told, or None, or raise TooMany."""
    told = dict(zip(places, others))
    rows = _rows_to_try(thing_sorts(first), thing_sorts(second), told)
    ends = _ends_of(first)
    stands = atom_table(second[1])
    chosen, tried, made = [], [0], 0
    while tried and len(chosen) < len(rows):
        place = len(chosen)
        if tried[-1] == len(rows[place]):
            tried.pop()
            if chosen:
                chosen.pop()
        else:
            if made == MOST_TRIES:
                raise TooMany()
            made = made + 1
            chosen.append(rows[place][tried[-1]])
            tried[-1] = tried[-1] + 1
            if all([(relation, picked(chosen, things)) in stands for relation, things in ends[place]]):
                tried.append(0)
            else:
                chosen.pop()
    return tuple(chosen) if tried else None


def _rows_to_try(sorts, others, told):
    """Return the list of the tuples of things to try for each thing: the one that is told, or all of its sort."""
    of_sort = {}
    for thing, sort in enumerate(others):
        of_sort.setdefault(sort, []).append(thing)
    rows = []
    for thing, sort in enumerate(sorts):
        row = of_sort.get(sort, [])
        if thing in told:
            row = [told[thing]] if others[told[thing]] == sort else []
        rows.append(row)
    # Where a thing has nothing to try there is no map, whatever comes before it.
    return rows if all(rows) else [[]]


def _ends_of(store):
    """Return the list with, for each thing, the atoms that have it as their greatest thing."""
    ends = [[] for _ in range(sum(store[0]))]
    for relation, things in store[1]:
        ends[max(things)].append((relation, things))
    return ends
