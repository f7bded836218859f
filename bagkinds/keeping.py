"""A keeper of a book that changes."""

from bagkinds.books import MOST_FACTS, MOST_FORMS, MOST_NAMES, check_book, is_fact
from bagkinds.deciding import has_store
from bagkinds.errors import BadBook, UnknownNumber
from bagkinds.forms import check_form
from bagkinds.formulas import all_terms
from bagkinds.languages import is_number
from bagkinds.questions import follows
from bagkinds.tables import greatest_table


class Keeper:
    """A book with its changes; a change that raises an error changes nothing."""

    def __init__(self, book):
        check_book(book)
        self._book = book
        self._past = []
        self._forms_before = None

    def __len__(self):
        return len(self._past)

    def add_form(self, form):
        """Add a form at the end, or raise BadForm or BadBook."""
        language, forms, names, facts = self._book
        check_form(language, form)
        if len(forms) == MOST_FORMS:
            raise BadBook("forms")
        self._change((language, forms + (form,), names, facts))

    def drop_form(self, number):
        """Drop the form with this number, or raise UnknownNumber."""
        language, forms, names, facts = self._book
        self._change((language, without(forms, number), names, facts))

    def add_fact(self, fact):
        """Add a fact at the end, or raise BadBook."""
        language, forms, names, facts = self._book
        if len(facts) == MOST_FACTS or not is_fact(language, names, fact):
            raise BadBook("facts")
        self._change((language, forms, names, facts + (fact,)))

    def drop_fact(self, number):
        """Drop the fact with this number, or raise UnknownNumber."""
        language, forms, names, facts = self._book
        self._change((language, forms, names, without(facts, number)))

    def add_name(self, sort):
        """Add a name of this sort at the end, or raise BadBook."""
        language, forms, names, facts = self._book
        if len(names) == MOST_NAMES or not is_number(sort, 0, language[0] - 1):
            raise BadBook("names")
        self._change((language, forms, names + (sort,), facts))

    def drop_name(self):
        """Drop the last name, or raise UnknownNumber or BadBook."""
        language, forms, names, facts = self._book
        if len(names) == 0:
            raise UnknownNumber()
        if any([len(names) - 1 in all_terms(fact) for fact in facts]):
            raise BadBook("facts")
        self._change((language, forms, names[:-1], facts))

    def undo(self):
        """Take back the last change that is not undone, or raise UnknownNumber."""
        if len(self._past) == 0:
            raise UnknownNumber()
        self._forms_before = self._book[1]
        self._book = self._past.pop()

    def _change(self, book):
        self._past.append(self._book)
        self._forms_before = self._book[1]
        self._book = book

    def follows(self, question):
        """Return what follows returns for the present book, or raise TooMany."""
        return follows(self._book, question)

    @property
    def book(self):
        """The present book."""
        return self._book

    @property
    def table(self):
        """The greatest table of the present forms; it raises TooMany."""
        return greatest_table(self._book[0], self._book[1])

    @property
    def has_store(self):
        """Whether some store keeps the present book; it raises TooMany."""
        return has_store(self._book)

    @property
    def kept(self):
        """The number of kinds of the table that were there before the last change or undo; it raises TooMany."""
        language, forms, _, _ = self._book
        present = greatest_table(language, forms)
        if self._forms_before is None:
            return 0
        if self._forms_before == forms:
            return len(present)
        before = {kind: True for kind in greatest_table(language, self._forms_before)}
        return len([kind for kind in present if kind in before])


def without(row, number):
    """Return a tuple without the item with this number, or raise UnknownNumber for a value that is none."""
    if not is_number(number, 0, len(row) - 1):
        raise UnknownNumber()
    return row[:number] + row[number + 1:]
