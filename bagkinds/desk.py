"""A desk that keeps a book and answers lines of text."""

from bagkinds.books import name_sorts
from bagkinds.errors import BadFormula, BadLine, BadText
from bagkinds.formulas import MOST_LEVELS, all_parts, check_formula, count_parts, free_terms
from bagkinds.keeping import Keeper
from bagkinds.questions import answers
from bagkinds.texts import read_book, read_condition, read_form, read_formula, read_number, write_book, write_numbers

MOST_QUESTION_LEVELS = 9
MOST_QUESTION_PARTS = 150
MOST_TERMS = 4
# Lines without anything behind their words.
ALONE = ("book", "store", "table", "undo", "drop name")
ASKED = ("book", "store", "table", "follows", "sure", "possible")
DONE = "done"


class Desk:
    """A keeper of a book that is asked and changed by lines of text."""

    def __init__(self, text):
        self.keeper = Keeper(read_book(text))

    def answer(self, line):
        """Do what a line says and return what it asks for, or raise BadLine, BadFormula or an error of the keeper."""
        try:
            word, told = read_line(self.keeper.book[0], line)
        except BadText:
            raise BadLine(1) from None
        if word in ASKED:
            return self.asked(word, told)
        self.change(word, told)
        return DONE

    def asked(self, word, told):
        """Return the answer to a line that changes nothing."""
        keeper = self.keeper
        if word == "book":
            return write_book(keeper.book)
        if word == "store":
            return yes_or_no(keeper.has_store)
        if word == "table":
            return str(len(keeper.table))
        if word == "follows":
            check_question(keeper.book[0], told[0], name_sorts(keeper.book[2]))
            return yes_or_no(keeper.follows(told[0])[0])
        formula, terms = told
        check_open_question(keeper.book[0], formula, terms)
        sure, possible = answers(keeper.book, formula, terms)
        rows = sure if word == "sure" else possible
        return " ".join([write_numbers(row) for row in rows]) if rows else "none"

    def change(self, word, told):
        """Do what a line says that changes the book."""
        if word == "form":
            self.keeper.add_form(told[0])
        elif word == "fact":
            self.keeper.add_fact(told[0])
        elif word == "name":
            self.keeper.add_name(told[0])
        elif word == "drop form":
            self.keeper.drop_form(told[0])
        elif word == "drop fact":
            self.keeper.drop_fact(told[0])
        elif word == "drop name":
            self.keeper.drop_name()
        else:
            self.keeper.undo()


def yes_or_no(holds_so):
    """Return the word for True or False."""
    return "yes" if holds_so else "no"


def read_line(language, line):
    """Return the words that tell what a line wants, and the tuple of what it tells behind them, or raise BadText."""
    words = line.split(" ")
    word, many = words[0], len(words)
    if line in ALONE:
        return (line, ())
    if word == "form" and many > 1:
        return (word, (read_form(language, words[1:]),))
    if word == "fact" and many == 2:
        return (word, (read_condition(language, words[1]),))
    if word == "name" and many == 2:
        return (word, (read_number(words[1]),))
    if word == "follows" and many == 2:
        return (word, (read_formula(language, words[1]),))
    if word in ("sure", "possible") and many == 3:
        return (word, (read_formula(language, words[1]), tuple([read_number(term) for term in words[2].split(",")])))
    if word == "drop" and many == 3 and words[1] in ("form", "fact"):
        return (word + " " + words[1], (read_number(words[2]),))
    raise BadText()


def check_question(language, formula, free):
    """Raise BadFormula if a formula is no question with these free terms at most."""
    # Begun so deep, a formula has as many levels left as a question may have.
    if count_parts(language, formula, MOST_LEVELS - MOST_QUESTION_LEVELS + 1) > MOST_QUESTION_PARTS:
        raise BadFormula()
    check_formula(language, formula, free)


def check_open_question(language, formula, terms):
    """Raise BadFormula if a formula is no question whose free terms stand in atoms and are these one to four terms."""
    told = {}
    for part in all_parts(formula):
        if part[0] == "atom":
            for term, sort in zip(part[2], language[1][part[1]][1]):
                told.setdefault(term, sort)
    free = free_terms(formula)
    check_question(language, formula, tuple([(term, told[term]) for term in free if term in told]))
    if len(terms) > MOST_TERMS or tuple(sorted(terms)) != free:
        raise BadFormula()
