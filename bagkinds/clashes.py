"""All least lots of forms or facts that clash or give an answer, and all greatest ones that do not."""

from bagkinds.deciding import has_store
from bagkinds.errors import TooMany
from bagkinds.lists import greatest_free
from bagkinds.questions import check_size, deny
from bagkinds.roots import first_root, plan_of
from bagkinds.tables import greatest_table, missing_from

MOST_LOTS = 8


def least_clashes(book, groups):
    """Return the least lots of groups of forms without a store, and the greatest ones with one; or raise TooMany."""
    check_size(book)
    return both_lists(len(groups), GroupLots(book, groups))


def grounds(book, question):
    """Return the least lots of facts with which a question follows, and the greatest ones without; or raise TooMany."""
    check_facts(book)
    check_size(book)
    return both_lists(len(book[3]), FactLots(book, deny(book, question)))


def fact_mends(book):
    """Return the ascending tuple of all greatest lots of facts with which the book has a store, or raise TooMany."""
    check_facts(book)
    return both_lists(len(book[3]), FactLots(book, (book,)))[1]


def follows_in_all(book, question):
    """Tell whether a question follows with each greatest lot of facts that has a store, or raise TooMany."""
    mends = fact_mends(book)
    if not mends:
        return True
    lots = FactLots(book, deny(book, question))
    for numbers in mends:
        if not lots.clash(numbers):
            return False
    return True


def check_facts(book):
    """Raise TooMany if there are too many facts to look at all lots of them."""
    if len(book[3]) > MOST_LOTS:
        raise TooMany()


class GroupLots:
    """The lots of some groups of the forms of a book, with the forms that are in no group."""

    def __init__(self, base, groups):
        self.base = base
        self.groups = groups

    def clash(self, numbers):
        """Tell whether the book has no store with the groups with these numbers alone, or raise TooMany."""
        language, forms, names, facts = self.base
        left_out = [form for number, group in enumerate(self.groups) if number not in numbers for form in group]
        chosen = tuple([form for number, form in enumerate(forms) if number not in left_out])
        return not has_store((language, chosen, names, facts))


class FactLots:
    """The lots of the facts of a book, in books that have further forms and, behind these facts, further facts.

    tables gives the places of these books their greatest tables, as far as they were asked for.
    """

    def __init__(self, base, books):
        self.facts = base[3]
        self.books = books
        self.tables = {}

    def clash(self, numbers):
        """Tell whether none of the books has a store with the facts with these numbers alone, or raise TooMany."""
        chosen = tuple([self.facts[number] for number in numbers])
        for place in range(len(self.books)):
            if self.stands(place, chosen):
                return False
        return True

    def stands(self, place, chosen):
        """Tell whether one of the books has a store with some of the facts, or raise TooMany."""
        language, forms, names, facts = self.books[place]
        if place not in self.tables:
            self.tables[place] = greatest_table(language, forms)
        kinds = self.tables[place]
        if missing_from(forms, kinds):
            return False
        return first_root(plan_of((language, forms, names, chosen + facts[len(self.facts):]), kinds)) is not None


def both_lists(size, lots):
    """Return all least lots of numbers below size that clash and all greatest ones that do not, or raise TooMany.

    What holds a lot that clashes must clash, too. Each greatest lot that holds none of the clashing ones known is asked
    for: either it is one of those that do not clash, or it leads to a further least one that does.
    """
    least, greatest = (), {}
    waiting = greatest_free(size, least)
    while waiting:
        chosen = waiting.pop()
        if lots.clash(chosen):
            least = least + (_lessened(chosen, lots),)
            waiting = [member for member in greatest_free(size, least) if member not in greatest]
        else:
            greatest[chosen] = True
    return (tuple(sorted(least)), tuple(sorted(greatest)))


def _lessened(chosen, lots):
    """Return a least lot that clashes within one that does, or raise TooMany."""
    for number in chosen:
        fewer = tuple([other for other in chosen if other != number])
        if lots.clash(fewer):
            chosen = fewer
    return chosen
