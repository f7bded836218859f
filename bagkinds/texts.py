"""Formulas, forms and books as texts."""

from bagkinds.books import check_book
from bagkinds.errors import BadLine, BadText
from bagkinds.formulas import LAST_TERM, MOST_LEVELS, MOST_PARTS, is_condition
from bagkinds.forms import SIZES
from bagkinds.languages import MOST_PLACES, is_ascending, is_name, relation_number

MOST_SIGNS = 2000
MOST_DIGITS = 3
DIGITS = "0123456789"
JOINED = {"&": "and", "|": "or"}
BOUND = {"E": "some", "A": "all"}
SIGNS = {"and": "&", "or": "|", "some": "E", "all": "A"}
# The lines of a book stand in this order.
STAGES = {"sorts": 0, "relation": 1, "all": 2, "some": 2, "once": 2, "name": 3, "fact": 4}


def write_formula(language, formula):
    """Return the text of a formula or guard."""
    word = formula[0]
    if word == "atom":
        return language[1][formula[1]][0] + "(" + write_numbers(formula[2]) + ")"
    if word == "equal":
        return str(formula[1]) + "=" + str(formula[2])
    if word == "sort":
        return ":" + str(formula[1]) + "(" + str(formula[2]) + ")"
    if word == "not":
        return "!" + write_formula(language, formula[1])
    if word in ("and", "or"):
        return SIGNS[word] + "(" + ",".join([write_formula(language, part) for part in formula[1]]) + ")"
    parts = [write_numbers(formula[1]), write_formula(language, formula[2]), write_formula(language, formula[3])]
    return SIGNS[word] + "(" + ";".join(parts) + ")"


def write_numbers(numbers):
    """Return the text of a row of numbers."""
    return ",".join([str(number) for number in numbers])


def read_formula(language, text):
    """Return the formula with this text, or raise BadText."""
    if len(text) > MOST_SIGNS:
        raise BadText()
    return read_whole(language, text)


def read_whole(language, text):
    """Return the formula with this text, however long, or raise BadText."""
    reading = Reading(language, text)
    formula = reading.take_formula(1)
    reading.check_end()
    return formula


def read_guard(language, text):
    """Return the guard with this text, or raise BadText."""
    reading = Reading(language, text)
    guard = reading.take_guard(1)
    reading.check_end()
    return guard


def read_condition(language, text):
    """Return the condition with this text, however long, or raise BadText."""
    formula = read_whole(language, text)
    if not is_condition(formula):
        raise BadText()
    return formula


def read_number(text):
    """Return the number with this text, or raise BadText."""
    if not 1 <= len(text) <= MOST_DIGITS or not all([letter in DIGITS for letter in text]):
        raise BadText()
    if text[0] == "0" and len(text) > 1:
        raise BadText()
    return int(text)


class Reading:
    """A text while a formula is read: at is the place of the next sign, parts tells how many parts were begun."""

    def __init__(self, language, text):
        self.language = language
        self.text = text
        self.at = 0
        self.parts = 0

    def next_sign(self):
        """Return the next sign, or the empty text at the end."""
        return self.text[self.at:self.at + 1]

    def take(self, signs):
        """Go on behind these signs, or raise BadText where they do not stand."""
        if self.text[self.at:self.at + len(signs)] != signs:
            raise BadText()
        self.at = self.at + len(signs)

    def check_end(self):
        """Raise BadText if the text has not come to its end."""
        if self.at < len(self.text):
            raise BadText()

    def take_run(self, first, last):
        """Return the signs from the next one on as far as they are from first to last."""
        begin = self.at
        while first <= self.next_sign() <= last:
            self.at = self.at + 1
        return self.text[begin:self.at]

    def take_number(self):
        """Return the number that stands next, or raise BadText."""
        return read_number(self.take_run("0", "9"))

    def take_term(self):
        """Return the term that stands next, or raise BadText."""
        term = self.take_number()
        if term > LAST_TERM:
            raise BadText()
        return term

    def take_row(self):
        """Return the tuple of one or more terms that stands next, or raise BadText."""
        terms = [self.take_term()]
        while self.next_sign() == ",":
            self.take(",")
            terms.append(self.take_term())
        return tuple(terms)

    def begin_part(self, level):
        """Count a part at this level, or raise BadText if it is one too many or lies too deep."""
        self.parts = self.parts + 1
        if self.parts > MOST_PARTS or level > MOST_LEVELS:
            raise BadText()

    def take_formula(self, level):
        """Return the formula that stands next, or raise BadText."""
        sign = self.next_sign()
        if sign == ":":
            raise BadText()
        if sign in BOUND:
            return self.take_bound(level)
        if sign in JOINED:
            return self.take_joined(level)
        if sign == "!":
            self.begin_part(level)
            self.take("!")
            return ("not", self.take_formula(level + 1))
        if "0" <= sign <= "9":
            self.begin_part(level)
            first = self.take_term()
            self.take("=")
            return ("equal", first, self.take_term())
        return self.take_guard(level)

    def take_guard(self, level):
        """Return the atom or sort guard that stands next, or raise BadText."""
        self.begin_part(level)
        if self.next_sign() == ":":
            self.take(":")
            sort = self.take_number()
            self.take("(")
            term = self.take_term()
            self.take(")")
            return ("sort", sort, term)
        relation = relation_number(self.language, self.take_run("a", "z"))
        if relation is None:
            raise BadText()
        self.take("(")
        terms = self.take_row()
        self.take(")")
        if len(terms) != len(self.language[1][relation][1]):
            raise BadText()
        return ("atom", relation, terms)

    def take_joined(self, level):
        """Return the formula made of a row of parts that stands next, or raise BadText."""
        self.begin_part(level)
        word = JOINED[self.next_sign()]
        self.take(SIGNS[word] + "(")
        parts = []
        if self.next_sign() != ")":
            parts.append(self.take_formula(level + 1))
            while self.next_sign() == ",":
                self.take(",")
                parts.append(self.take_formula(level + 1))
        self.take(")")
        return (word, tuple(parts))

    def take_bound(self, level):
        """Return the formula that binds terms and stands next, or raise BadText."""
        self.begin_part(level)
        word = BOUND[self.next_sign()]
        self.take(SIGNS[word] + "(")
        variables = self.take_row()
        if not is_ascending(variables):
            raise BadText()
        self.take(";")
        guard = self.take_guard(level + 1)
        self.take(";")
        behind = self.take_formula(level + 1)
        self.take(")")
        return (word, variables, guard, behind)


def write_form(language, form):
    """Return the text of a form."""
    return " ".join([form[0]] + [write_formula(language, part) for part in form[1:]])


def read_form(language, words):
    """Return the form whose text has these words, or raise BadText."""
    if SIZES.get(words[0], 0) != len(words):
        raise BadText()
    parts = [words[0]]
    for place in range(1, len(words), 2):
        # Guards and conditions take turns in all forms.
        parts.append(read_guard(language, words[place]))
        parts.append(read_condition(language, words[place + 1]))
    return tuple(parts)


def write_book(book):
    """Return the text of a book."""
    language, forms, names, facts = book
    lines = ["sorts " + str(language[0])]
    for name, places in language[1]:
        lines.append(" ".join(["relation", name] + [str(sort) for sort in places]))
    lines.extend([write_form(language, form) for form in forms])
    lines.extend(["name " + str(sort) for sort in names])
    lines.extend(["fact " + write_formula(language, fact) for fact in facts])
    return "\n".join(lines)


def read_book(text):
    """Return the book with this text, or raise BadLine or BadBook."""
    reading = BookReading()
    for place, line in enumerate(text.split("\n")):
        try:
            reading.read(line.split(" "))
        except BadText:
            raise BadLine(place + 1) from None
    book = reading.whole()
    check_book(book)
    return book


class BookReading:
    """A book while its lines are read; stage is that of the last line, or -1."""

    def __init__(self):
        self.stage = -1
        self.sorts = 0
        self.relations = []
        self.forms = []
        self.names = []
        self.facts = []

    def present_language(self):
        """Return the language as far as it has been read."""
        return (self.sorts, tuple(self.relations))

    def whole(self):
        """Return the book as far as it has been read."""
        return (self.present_language(), tuple(self.forms), tuple(self.names), tuple(self.facts))

    def read(self, words):
        """Read a line with these words, or raise BadText."""
        stage = STAGES.get(words[0], -1)
        # The line of the sorts is the first one, and the only such one.
        if stage < self.stage or (stage == 0) != (self.stage == -1):
            raise BadText()
        self.stage = stage
        if stage == 1:
            self.relations.append(read_relation(words))
        elif stage == 2:
            self.forms.append(read_form(self.present_language(), words))
        elif len(words) != 2:
            raise BadText()
        elif stage == 0:
            self.sorts = read_number(words[1])
        elif stage == 3:
            self.names.append(read_number(words[1]))
        else:
            self.facts.append(read_condition(self.present_language(), words[1]))


def read_relation(words):
    """Return the relation whose line has these words, or raise BadText."""
    if not 3 <= len(words) <= 2 + MOST_PLACES or not is_name(words[1]):
        raise BadText()
    return (words[1], tuple([read_number(word) for word in words[2:]]))
