"""Formulas turned into forms, with new relations and switches for the parts that bind terms."""

from bagkinds.errors import TooMany
from bagkinds.formulas import JOINERS, LEAVES, all_terms, term_sorts
from bagkinds.languages import MOST_RELATIONS, relation_number
from bagkinds.stores import truth

MOST_SWITCHES = 6
MOST_NEW = 8
LETTERS = "abcdefghijklmnopqrstuvwxyz"
TRUE = ("and", ())
FALSE = ("or", ())


def to_forms(language, sentence):
    """Return the language with the new relations, and the cases in which the sentence is true."""
    turning = Turning(language, term_sorts(language, sentence, ()))
    rest = turning.turned(sentence)
    cases = []
    for bits in turning.all_bits():
        if truth(filled(rest, bits), {}, {}, 1) == 1:
            cases.append((bits, turning.case_forms(bits)))
    return (turning.language, tuple(cases))


class Turning:
    """The new relations, the added forms and the switches of a formula that is turned.

    language has the new relations at its end; added is the list of the forms that go with them;
    switches is the list of the pairs of the guard of a switch and what stands behind it.
    """

    def __init__(self, language, sorts):
        self.language = language
        self.sorts = dict(sorts)
        self.added = []
        self.switches = []
        self.many = 0

    def turned(self, formula):
        """Return the formula with its parts that bind terms replaced, or raise TooMany."""
        word = formula[0]
        if word in LEAVES:
            return formula
        if word == "not":
            return (word, self.turned(formula[1]))
        if word in JOINERS:
            return (word, tuple([self.turned(inner) for inner in formula[1]]))
        behind = self.turned(formula[3])
        if word == "some":
            return self.replaced(formula[1], formula[2], behind)
        return ("not", self.replaced(formula[1], formula[2], ("not", behind)))

    def replaced(self, variables, guard, behind):
        """Return the switch or the atom of a new relation that stands for a part."""
        outer = tuple([term for term in all_terms(guard) if term not in variables])
        if len(outer) == 0:
            if len(self.switches) == MOST_SWITCHES:
                raise TooMany()
            self.switches.append((guard, behind))
            return ("switch", len(self.switches) - 1)
        atom = ("atom", self.new_relation(outer), outer)
        self.added.append(("all", guard, ("or", (("not", behind), atom))))
        self.added.append(("some", atom, TRUE, guard, behind))
        return atom

    def new_relation(self, terms):
        """Put a relation for these terms at the end of the language, and return its number."""
        sorts, relations = self.language
        if self.many == MOST_NEW or len(relations) == MOST_RELATIONS:
            raise TooMany()
        names = ["new" + letter for letter in LETTERS]
        name = [word for word in names if relation_number(self.language, word) is None][0]
        places = tuple([self.sorts[term] for term in terms])
        self.language = (sorts, relations + ((name, places),))
        self.many = self.many + 1
        return len(relations)

    def all_bits(self):
        """Return the ascending list of all tuples of bits, one bit for each switch."""
        rows = [()]
        for _ in self.switches:
            rows = [row + (bit,) for row in rows for bit in (0, 1)]
        return rows

    def case_forms(self, bits):
        """Return the added forms and those of the switches, by their bits."""
        found = []
        for form in self.added:
            found.append(form[:-1] + (filled(form[-1], bits),))
        for bit, (guard, behind) in zip(bits, self.switches):
            told = filled(behind, bits)
            found.append(("once", guard, told) if bit == 1 else ("all", guard, ("not", told)))
        return tuple(found)


def filled(condition, bits):
    """Return the condition with what is always or never true in the place of its switches."""
    word = condition[0]
    if word == "switch":
        return TRUE if bits[condition[1]] == 1 else FALSE
    if word in LEAVES:
        return condition
    if word == "not":
        return (word, filled(condition[1], bits))
    return (word, tuple([filled(inner, bits) for inner in condition[1]]))
