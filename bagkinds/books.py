"""Books: a language, forms, names, and facts about them."""

from bagkinds.errors import BadBook, BadForm, BadFormula, BadLanguage, TooMany
from bagkinds.forms import check_form, keeps
from bagkinds.formulas import check_formula, is_condition
from bagkinds.languages import are_numbers, check_language, is_row
from bagkinds.stores import atom_table, thing_sorts, truth
from bagkinds.turning import to_forms

MOST_FORMS = 80
MOST_NAMES = 12
MOST_FACTS = 80
MOST_BOOKS = 64


def check_book(value):
    """Return None for a book, or raise BadBook with the first part that is wrong."""
    if not is_row(value, 4):
        raise BadBook("book")
    language, forms, names, facts = value
    try:
        check_language(language)
    except BadLanguage:
        raise BadBook("language") from None
    if not _are_forms(language, forms):
        raise BadBook("forms")
    if not are_numbers(names, 0, language[0] - 1) or len(names) > MOST_NAMES:
        raise BadBook("names")
    if not _are_facts(language, names, facts):
        raise BadBook("facts")


def _are_forms(language, value):
    if type(value) is not tuple or len(value) > MOST_FORMS:
        return False
    try:
        for form in value:
            check_form(language, form)
    except BadForm:
        return False
    return True


def _are_facts(language, names, value):
    if type(value) is not tuple or len(value) > MOST_FACTS:
        return False
    return all([is_fact(language, names, fact) for fact in value])


def is_fact(language, names, value):
    """Tell whether any value is a condition whose terms are names."""
    try:
        check_formula(language, value, name_sorts(names))
    except BadFormula:
        return False
    return is_condition(value)


def name_sorts(names):
    """Return the ascending tuple of the pairs of a name and its sort."""
    return tuple(list(enumerate(names)))


def keeps_book(book, store, places):
    """Tell whether the store keeps the book with these things for the names."""
    _, forms, names, facts = book
    sorts = thing_sorts(store)
    if not are_numbers(places, 0, len(sorts) - 1) or len(set(places)) < len(places):
        return False
    if tuple([sorts[place] for place in places]) != names:
        return False
    table = atom_table(store[1])
    values = dict(enumerate(places))
    if not all([truth(fact, values, table, 1) == 1 for fact in facts]):
        return False
    return all([keeps(store, form) for form in forms])


def book_of(language, sentences, names, facts):
    """Return the tuple of the books of these sentences, one for each choice of cases, or raise TooMany."""
    rows = []
    for sentence in sentences:
        language, cases = to_forms(language, sentence)
        rows.append([forms for _, forms in cases])
    if _many(rows) > MOST_BOOKS:
        raise TooMany()
    choices = [()]
    for cases in rows:
        choices = [chosen + forms for chosen in choices for forms in cases]
    if any([len(forms) > MOST_FORMS for forms in choices]):
        raise TooMany()
    return tuple([(language, forms, names, facts) for forms in choices])


def _many(rows):
    """Return the number of the ways to choose one of each row."""
    many = 1
    for row in rows:
        many = many * len(row)
    return many
