"""Questions: what follows from a book, the answers to a formula, and stores against a question."""

from bagkinds.books import MOST_FACTS, MOST_FORMS, name_sorts
from bagkinds.deciding import check_decision, decide, has_store
from bagkinds.errors import TooMany
from bagkinds.finite import finite_store
from bagkinds.formulas import QUANTIFIERS, all_parts, all_terms, renamed_terms, term_sorts
from bagkinds.kinds import all_kinds
from bagkinds.languages import is_row
from bagkinds.turning import Turning, filled

MOST_ROWS = 200
# Names have the numbers below this.
FIRST_BOUND = 12


def deny(book, question):
    """Return the books that say that the question is false, one for each tuple of bits, or raise TooMany."""
    language, forms, names, facts = book
    denied = ("not", question)
    turning = Turning(language, term_sorts(language, denied, name_sorts(names)))
    rest = turning.turned(denied)
    added = len(turning.added) + len(turning.switches)
    if len(forms) + added > MOST_FORMS or len(facts) + 1 > MOST_FACTS:
        raise TooMany()
    found = []
    for bits in turning.all_bits():
        found.append((turning.language, forms + turning.case_forms(bits), names, facts + (filled(rest, bits),)))
    return tuple(found)


def check_size(book):
    """Raise TooMany if the language and the forms of a book itself are beyond the bounds."""
    all_kinds(book[0], book[1])


def follows(book, question):
    """Return whether a question follows, with the papers for it or one against it, or raise TooMany."""
    check_size(book)
    decisions = []
    for denied in deny(book, question):
        decision = decide(denied)
        if decision[0] == "store":
            return (False, decision)
        decisions.append(decision)
    return (True, tuple(decisions))


def check_follows(book, question, value):
    """Tell whether any value is right for what follows returns, or raise TooMany."""
    check_size(book)
    books = deny(book, question)
    if not is_row(value, 2):
        return False
    if value[0] is True:
        return _are_all_none(books, value[1])
    return value[0] is False and _begins(value[1], "store") and _is_one_store(books, value[1])


def _begins(value, word):
    """Tell whether any value is a tuple that begins with this word."""
    return type(value) is tuple and len(value) > 0 and value[0] == word


def _are_all_none(books, value):
    if not is_row(value, len(books)) or not all([_begins(decision, "none") for decision in value]):
        return False
    for denied, decision in zip(books, value):
        if not check_decision(denied, decision):
            return False
    return True


def _is_one_store(books, value):
    for denied in books:
        if check_decision(denied, value):
            return True
    return False


def answers(book, formula, variables):
    """Return the tuples of names for which a formula follows, and for which its denial does not; or raise TooMany."""
    check_size(book)
    rows = _name_rows(book, formula, variables)
    if len(rows) > MOST_ROWS:
        raise TooMany()
    sure, possible = [], []
    for row in rows:
        question = with_names(formula, variables, row)
        if _is_sure(book, question):
            sure.append(row)
        if not _is_sure(book, ("not", question)):
            possible.append(row)
    return (tuple(sure), tuple(possible))


def _name_rows(book, formula, variables):
    """Return the ascending list of the tuples of names that have the sorts of the variables."""
    sorts = dict(term_sorts(book[0], formula, ()))
    rows = [()]
    for variable in variables:
        rows = [row + (name,) for row in rows for name, sort in enumerate(book[2]) if sort == sorts[variable]]
    return rows


def _is_sure(book, question):
    """Tell whether a question follows, without papers, or raise TooMany."""
    for denied in deny(book, question):
        if has_store(denied):
            return False
    return True


def with_names(formula, variables, names):
    """Return the formula with names in the place of variables, and numbers behind those of names for bound terms."""
    bound = [term for part in all_parts(formula) if part[0] in QUANTIFIERS for term in part[1]]
    taken = all_terms(formula)
    fresh = [term for term in range(FIRST_BOUND, FIRST_BOUND + len(bound) + len(taken)) if term not in taken]
    return renamed_terms(formula, tuple(list(zip(bound, fresh)) + list(zip(variables, names))))


def against(book, question):
    """Return a finite store that keeps the book with a question false, and the places, or None; or raise TooMany."""
    check_size(book)
    many = len(book[0][1])
    for denied in deny(book, question):
        found = finite_store(denied)
        if found is not None:
            (counts, atoms), places = found
            return ((counts, tuple([atom for atom in atoms if atom[0] < many])), places)
    return None
