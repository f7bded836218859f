"""Stores put together out of stores, and taken apart."""

from bagkinds.errors import TooMany
from bagkinds.stores import MOST_ATOMS, MOST_THINGS, picked, thing_sorts


def beside(first, second):
    """Return the store of two stores side by side, and the things there of their things; or raise TooMany."""
    counts = tuple([one + two for one, two in zip(first[0], second[0])])
    if max(counts) > MOST_THINGS or len(first[1]) + len(second[1]) > MOST_ATOMS:
        raise TooMany()
    left, right = [], []
    for sort in range(len(counts)):
        things = _things_of((counts, ()), sort)
        left.extend(things[:first[0][sort]])
        right.extend(things[first[0][sort]:])
    atoms = _moved(first[1], left) + _moved(second[1], right)
    return ((counts, tuple(sorted(atoms))), tuple(left), tuple(right))


def _moved(atoms, places):
    """Return the list of the atoms with each thing replaced by its place."""
    return [(relation, picked(places, things)) for relation, things in atoms]


def times(first, second):
    """Return the product of two stores, and the pairs that its things are; or raise TooMany."""
    counts = tuple([one * two for one, two in zip(first[0], second[0])])
    inner, outer = _by_look(first), _by_look(second)
    if max(counts) > MOST_THINGS or sum([len(inner[look]) * len(outer.get(look, ())) for look in inner]) > MOST_ATOMS:
        raise TooMany()
    pairs = []
    for sort in range(len(counts)):
        pairs.extend([(one, two) for one in _things_of(first, sort) for two in _things_of(second, sort)])
    place_of = {pair: place for place, pair in enumerate(pairs)}
    atoms = []
    for look in inner:
        for ones in inner[look]:
            for twos in outer.get(look, ()):
                atoms.append((look[0], tuple([place_of[pair] for pair in zip(ones, twos)])))
    return ((counts, tuple(sorted(atoms))), tuple(pairs))


def _things_of(store, sort):
    """Return the list of the things of a sort."""
    return list(range(sum(store[0][:sort]), sum(store[0][:sort + 1])))


def _by_look(store):
    """Return a dict that gives each relation with the sorts of its things the list of the things of its atoms."""
    sorts = thing_sorts(store)
    found = {}
    for relation, things in store[1]:
        found.setdefault((relation, picked(sorts, things)), []).append(things)
    return found


def part_of(store, things):
    """Return the store of an ascending tuple of things alone, numbered anew."""
    sorts = thing_sorts(store)
    place_of = {thing: place for place, thing in enumerate(things)}
    row = [sorts[thing] for thing in things]
    atoms = [atom for atom in store[1] if all([thing in place_of for thing in atom[1]])]
    counts = tuple([row.count(sort) for sort in range(len(store[0]))])
    return (counts, tuple(sorted(_moved(atoms, place_of))))


def renamed(store, order):
    """Return the store in which the thing at each place of order has that place as its number."""
    place_of = {thing: place for place, thing in enumerate(order)}
    return (store[0], tuple(sorted(_moved(store[1], place_of))))
