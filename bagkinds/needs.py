"""Needs: what kinds ask of other kinds by "some" forms, and how these meet them."""

from bagkinds.forms import places_of, shared
from bagkinds.kinds import atoms_over
from bagkinds.stores import atom_table, first_of, picked, standing


def ways(kind, form):
    """Return the ascending tuple of all ways of a "some" form in the kind."""
    return tuple(standing(kind[0], atom_table(kind[1]), form[1], form[2]))


def needs(forms, kind):
    """Return the ascending tuple of the needs that the ways of the kind give."""
    found = []
    for number, form in enumerate(forms):
        if form[0] == "some":
            above = places_of(shared(form), form[1])
            found.extend([(number, picked(way, above)) for way in ways(kind, form)])
    return tuple(sorted(set(found)))


def view(kind, slots):
    """Return what the kind tells of a row of slots: which are alike, and the atoms over them.

    Two kinds tell the same of two rows exactly if the views are equal.
    """
    return (tuple([slots.index(slot) for slot in slots]), atoms_over(kind, slots))


def head_ways(form, other, exact):
    """Return the ascending list of the tuples of slots at which the head of a form stands and e holds.

    If exact is True, only those are told that have every slot of the kind.
    """
    found = standing(other[0], atom_table(other[1]), form[-2], form[-1])
    if exact:
        return [way for way in found if len(set(way)) == len(other[0])]
    return found


def meeting_ways(forms, need, kind, other, exact):
    """Return the ascending list of all tuples of slots of other with which it meets the need of the kind."""
    form = forms[need[0]]
    below = places_of(shared(form), form[3])
    sought = view(kind, need[1])
    return [way for way in head_ways(form, other, exact) if view(other, picked(way, below)) == sought]


def meeting(forms, need, kind, other, exact):
    """Return the least tuple of slots of other with which it meets the need of the kind, or None."""
    return first_of(meeting_ways(forms, need, kind, other, exact))


def at_home(forms, need, kind):
    """Tell whether the kind itself has what the need asks for, with the shared variables where they are."""
    form = forms[need[0]]
    below = places_of(shared(form), form[3])
    return any([picked(way, below) == need[1] for way in head_ways(form, kind, False)])


def serving(forms, number, other, exact):
    """Return the least tuple of slots of other with which it serves a "once" form, or None."""
    return first_of(head_ways(forms[number], other, exact))
