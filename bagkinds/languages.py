"""Languages: a number of sorts, and relations with a name and places."""

from bagkinds.errors import BadLanguage

MOST_SORTS = 4
MOST_RELATIONS = 16
MOST_LETTERS = 8
MOST_PLACES = 4


def is_number(value, least, most):
    """Tell whether any value is an integer from least to most; True and False are none."""
    return type(value) is int and least <= value <= most


def are_numbers(value, least, most):
    """Tell whether any value is a plain tuple of integers from least to most."""
    return type(value) is tuple and all([is_number(item, least, most) for item in value])


def is_row(value, size):
    """Tell whether any value is a plain tuple of this size."""
    return type(value) is tuple and len(value) == size


def is_ascending(values):
    """Tell whether values that can be compared ascend without repetitions."""
    return all([values[k] < values[k + 1] for k in range(len(values) - 1)])


def check_language(value):
    """Return None for a language, or raise BadLanguage."""
    if not _is_outline(value):
        raise BadLanguage(-1)
    sorts, relations = value
    names = {}
    for number, relation in enumerate(relations):
        if not _is_relation(relation, sorts) or relation[0] in names:
            raise BadLanguage(number)
        names[relation[0]] = True


def _is_outline(value):
    if not is_row(value, 2) or not is_number(value[0], 1, MOST_SORTS):
        return False
    return type(value[1]) is tuple and len(value[1]) <= MOST_RELATIONS


def _is_relation(value, sorts):
    if not is_row(value, 2) or not is_name(value[0]):
        return False
    places = value[1]
    if type(places) is not tuple or not 1 <= len(places) <= MOST_PLACES:
        return False
    return all([is_number(place, 0, sorts - 1) for place in places])


def is_name(value):
    """Tell whether any value is right as the name of a relation."""
    if type(value) is not str or not 1 <= len(value) <= MOST_LETTERS:
        return False
    return all(["a" <= letter <= "z" for letter in value])


def width(language):
    """Return the greatest number of places of a relation, and 1 without relations."""
    return max([len(places) for _, places in language[1]], default=1)


def relation_number(language, name):
    """Return the number of the relation with this name, or None."""
    for number, relation in enumerate(language[1]):
        if relation[0] == name:
            return number
    return None
