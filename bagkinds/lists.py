"""Lists of all least sets that hit given sets, and of all greatest ones beside them.

Sets of numbers stand in a table: a list of words with a bit for each set. The numbers below 10 tell the bit of a set in
its word, the other ones the place of the word, so that no word has more than 1024 bits.
"""

from bagkinds.errors import TooMany

MOST_LISTED = 2000
LOW = 10


def least_hitting(sets):
    """Return the ascending tuple of all least tuples that have a number of each of these sets, or raise TooMany."""
    size = max([member[-1] + 1 for member in sets if member], default=0)
    free = greatest_free(size, sets)
    return tuple(sorted([others(size, member) for member in free]))


def are_lists(size, least, greatest):
    """Tell whether these are least sets, and all greatest ones that hold none of them; or raise TooMany."""
    if not _stand_alone(size, least) or not _stand_alone(size, greatest):
        return False
    return tuple(sorted(greatest)) == tuple(sorted(greatest_free(size, least)))


def others(size, member):
    """Return the ascending tuple of the numbers below size that a set does not have."""
    return tuple([number for number in range(size) if number not in member])


def greatest_free(size, sets):
    """Return the list of the greatest sets of numbers below size that hold none of these sets, or raise TooMany."""
    low = min(size, LOW)
    full = (1 << (1 << low)) - 1
    free = [full & ~word for word in _upwards(size, _table_of(size, sets))]
    # A set that holds none is not greatest if it still holds none with a further number.
    smaller = [0 for _ in free]
    for number in range(size):
        smaller = [word | less for word, less in zip(smaller, _taken(low, number, free))]
    return _members(low, [word & ~less for word, less in zip(free, smaller)])


def _table_of(size, sets):
    """Return the table of these sets of numbers below size."""
    low = min(size, LOW)
    table = [0 for _ in range(1 << (size - low))]
    for member in sets:
        place = sum([1 << (number - low) for number in member if number >= low])
        bit = sum([1 << number for number in member if number < low])
        table[place] = table[place] | 1 << bit
    return table


def _bits_with(low, number):
    """Return the word with the bits of the sets of numbers below low that have this number."""
    word = ((1 << (1 << number)) - 1) << (1 << number)
    for further in range(number + 1, low):
        word = word | word << (1 << further)
    return word


def _upwards(size, table):
    """Return the table of all sets that hold one of a table."""
    low = min(size, LOW)
    found = table
    for number in range(size):
        found = [word | wider for word, wider in zip(found, _put(low, number, found))]
    return found


def _put(low, number, table):
    """Return the table of those sets of a table that do not have this number, with it put to them."""
    if number < low:
        bits = _bits_with(low, number)
        return [(word & ~bits) << (1 << number) for word in table]
    high = 1 << (number - low)
    return [table[place - high] if place & high != 0 else 0 for place in range(len(table))]


def _taken(low, number, table):
    """Return the table of those sets of a table that have this number, with it taken from them."""
    if number < low:
        bits = _bits_with(low, number)
        return [(word & bits) >> (1 << number) for word in table]
    high = 1 << (number - low)
    return [table[place + high] if place & high == 0 else 0 for place in range(len(table))]


def _stand_alone(size, sets):
    """Tell whether none of these sets holds another one, or is equal to one at another place."""
    if len(set(sets)) < len(sets):
        return False
    low = min(size, LOW)
    table = _table_of(size, sets)
    larger = [0 for _ in table]
    for number in range(size):
        larger = [word | wider for word, wider in zip(larger, _put(low, number, table))]
    return all([word & wider == 0 for word, wider in zip(table, _upwards(size, larger))])


def _members(low, table):
    """Return the list of the sets of a table as ascending tuples, or raise TooMany if there are too many."""
    found = []
    for place, word in enumerate(table):
        while word != 0:
            if len(found) == MOST_LISTED:
                raise TooMany()
            bit = (word & -word).bit_length() - 1
            word = word & (word - 1)
            numbers = [number for number in range(low) if bit >> number & 1 == 1]
            numbers.extend([low + number for number in range(len(table).bit_length()) if place >> number & 1 == 1])
            found.append(tuple(numbers))
    return found
