"""[36], [37], [38]: least lots of forms or facts that clash or give an answer."""

import itertools
import unittest

from bagkinds.clashes import fact_mends, follows_in_all, grounds, least_clashes
from bagkinds.deciding import has_store
from bagkinds.errors import TooMany
from bagkinds.lists import are_lists
from bagkinds.questions import follows
from tests.helpers import ARROWS, FALSE, TRUE, atom, both, either, is_plain_value, neg, sort
from tests.slow import SMALL, TWO, made_book
from tests.test_questions import made_question
from tests.test_roots import book_of_97
from tests.test_tables import ELEVEN, WIDE, wide_forms

R, P = 0, 1
ONCE = ("once", atom(P, 0), TRUE)
NEXT = ("some", atom(P, 0), TRUE, atom(R, 0, 1), atom(P, 1))
NO_NEXT = ("all", atom(R, 0, 1), FALSE)
NO_P = ("all", sort(0, 0), neg(atom(P, 0)))


def slow_lists(size, clash):
    """All least lots that clash and all greatest ones that do not, asking for every lot."""
    lots = [lot for many in range(size + 1) for lot in itertools.combinations(range(size), many)]
    bad = [lot for lot in lots if clash(lot)]
    good = [lot for lot in lots if lot not in bad]
    least = sorted(lot for lot in bad if not any(set(other) < set(lot) for other in bad))
    greatest = sorted(lot for lot in good if not any(set(lot) < set(other) for other in good))
    return tuple(least), tuple(greatest)


def with_groups(book, groups, lot):
    out = {form for number, group in enumerate(groups) if number not in lot for form in group}
    return book[:1] + (tuple(form for number, form in enumerate(book[1]) if number not in out),) + book[2:]


def with_facts(book, lot):
    return book[:3] + (tuple(book[3][number] for number in lot),)


class LeastClashesTest(unittest.TestCase):
    def test_groups(self):
        book = (ARROWS, (ONCE, NEXT, NO_NEXT, NO_P), (), ())
        groups = ((0,), (1,), (2,), (3,))
        told = (((0, 1, 2), (0, 3)), ((0, 1), (0, 2), (1, 2, 3)))
        self.assertEqual(least_clashes(book, groups), told)
        self.assertEqual(least_clashes(book=book, groups=groups), told)
        self.assertIs(are_lists(4, *told), True)
        # forms in no group are always there
        self.assertEqual(least_clashes(book, ((1,), (3,))), (((0,), (1,)), ((),)))
        self.assertEqual(least_clashes(book, ((1, 3), (), (2,))), (((0,),), ((1, 2),)))

    def test_no_groups_and_empty_groups(self):
        book = (ARROWS, (ONCE, NO_P), (), ())
        self.assertEqual(least_clashes(book, ()), (((),), ()))
        self.assertEqual(least_clashes((ARROWS, (ONCE,), (), ()), ()), ((), ((),)))
        self.assertEqual(least_clashes(book, ((),) * 8), (((),), ()))
        self.assertEqual(least_clashes((ARROWS, (ONCE,), (), ()), ((),) * 8), ((), (tuple(range(8)),)))
        self.assertEqual(least_clashes(book, ((), (0, 1))), (((1,),), ((0,),)))
        self.assertEqual(least_clashes((ARROWS, (), (), ()), ()), ((), ((),)))

    def test_facts_and_names(self):
        book = (ARROWS, (NO_P, NO_NEXT), (0, 0), (either(atom(P, 0), atom(R, 0, 1)),))
        self.assertEqual(least_clashes(book, ((0,), (1,))), (((0, 1),), ((0,), (1,))))

    def test_eight_groups(self):
        language = (1, tuple(("n" + letter, (0,)) for letter in "abcdefgh"))
        forms = tuple(("all", sort(0, 0), neg(atom(number, 0))) for number in range(8))
        pairs = tuple(either(atom(number, 0), atom(number + 1, 0)) for number in range(0, 8, 2))
        told = least_clashes((language, forms, (0,), pairs), tuple((number,) for number in range(8)))
        self.assertEqual(told[0], ((0, 1), (2, 3), (4, 5), (6, 7)))
        self.assertEqual(len(told[1]), 16)
        self.assertIs(are_lists(8, *told), True)
        four = tuple(both(*[either(*[atom(number, 0) for number in lot]) for lot in lots])
                     for lots in (tuple(itertools.combinations(range(8), 4)),))
        told = least_clashes((language, forms, (0,), four), tuple((number,) for number in range(8)))
        self.assertEqual(told, (tuple(itertools.combinations(range(8), 4)), tuple(itertools.combinations(range(8), 3))))

    def test_made(self):
        seen = 0
        for seed in range(120):
            book = made_book((SMALL, TWO)[seed % 2], seed, 5, 2, 2)
            many = len(book[1])
            groups = (tuple(range(0, many, 3)), (), tuple(range(1, many, 3)), tuple(range(2, many - 1, 3)))
            told = least_clashes(book, groups)
            self.assertEqual(told, slow_lists(4, lambda lot: not has_store(with_groups(book, groups, lot))))
            self.assertIs(are_lists(4, *told), True)
            self.assertTrue(is_plain_value(told))
            seen += len(told[0]) > 0
        self.assertGreater(seen, 20)

    def test_too_many(self):
        for language, forms in ((ELEVEN, ()), (WIDE, wide_forms(475))):
            for groups in ((), ((0,),), None):
                with self.assertRaises(TooMany):
                    least_clashes((language, forms, (), (FALSE,)), groups)
        with self.assertRaises(TooMany):
            least_clashes(book_of_97(), ())


class GroundsTest(unittest.TestCase):
    book = (ARROWS, (NEXT,), (0, 0), (atom(P, 0), atom(R, 0, 1), neg(atom(R, 0, 1)), either(atom(P, 0), atom(P, 1))))

    def test_facts(self):
        told = (((0,), (1, 2)), ((1, 3), (2, 3)))
        self.assertEqual(grounds(self.book, atom(P, 0)), told)
        self.assertEqual(grounds(book=self.book, question=atom(P, 0)), told)
        self.assertIs(are_lists(4, *told), True)
        self.assertEqual(grounds(self.book, TRUE), (((),), ()))
        self.assertEqual(grounds(self.book, FALSE), (((1, 2),), ((0, 1, 3), (0, 2, 3))))
        self.assertEqual(grounds(self.book[:3] + ((),), TRUE), (((),), ()))
        self.assertEqual(grounds(self.book[:3] + ((),), atom(P, 0)), ((), ((),)))

    def test_quantifiers(self):
        onward = ("some", (5,), atom(R, 0, 5), atom(P, 5))
        # with p at the name 1, that is the next
        self.assertEqual(grounds(self.book, onward), (((0,), (1, 2), (1, 3)), ((1,), (2, 3))))
        somewhere = ("some", (5,), sort(0, 5), atom(P, 5))
        self.assertEqual(grounds(self.book, somewhere), (((0,), (1, 2), (3,)), ((1,), (2,))))

    def test_eight_and_nine_facts(self):
        facts = tuple(atom(R, name, other) for name in range(3) for other in range(3))[:8]
        book = (ARROWS, (), (0,) * 3, facts)
        self.assertEqual(grounds(book, both(atom(R, 0, 0), atom(R, 1, 1))), (((0, 4),), ((0, 1, 2, 3, 5, 6, 7), tuple(range(1, 8)))))
        for question in (TRUE, None):
            for language in (ARROWS, ELEVEN):
                with self.assertRaises(TooMany):
                    grounds((language, (), (0,), (atom(0, 0),) * 9), question)

    def test_made(self):
        seen = 0
        for seed in range(120):
            book = made_book((SMALL, TWO)[seed % 2], seed, 3, 2, 4)
            question = made_question(book, seed, 2)
            told = grounds(book, question)
            self.assertEqual(told, slow_lists(len(book[3]), lambda lot: follows(with_facts(book, lot), question)[0]))
            self.assertIs(are_lists(len(book[3]), *told), True)
            self.assertTrue(is_plain_value(told))
            seen += len(told[0]) > 0 and len(told[1]) > 0
        self.assertGreater(seen, 10)

    def test_too_many(self):
        for language, forms in ((ELEVEN, ()), (WIDE, wide_forms(475))):
            for question in (TRUE, None, atom(0, 0)):
                with self.assertRaises(TooMany):
                    grounds((language, forms, (0,), ()), question)
        with self.assertRaises(TooMany):
            grounds(book_of_97(), FALSE)
        seven = both(*[("some", (number,), atom(P, number), TRUE) for number in range(7)])
        with self.assertRaises(TooMany):
            grounds((ARROWS, (), (), ()), seven)


class MendsTest(unittest.TestCase):
    book = (ARROWS, (NO_NEXT,), (0, 0), (atom(P, 0), atom(R, 0, 1), neg(atom(P, 0)), atom(P, 1)))

    def test_facts(self):
        self.assertEqual(fact_mends(self.book), ((0, 3), (2, 3)))
        self.assertEqual(fact_mends(book=self.book), ((0, 3), (2, 3)))
        self.assertEqual(fact_mends(self.book[:3] + ((),)), ((),))
        self.assertEqual(fact_mends(self.book[:3] + ((FALSE, FALSE),)), ((),))
        self.assertEqual(fact_mends(self.book[:3] + ((TRUE, atom(P, 0)),)), ((0, 1),))
        self.assertEqual(fact_mends((ARROWS, (ONCE, NO_P), (), ())), ())
        self.assertEqual(fact_mends((ARROWS, (ONCE, NO_P), (0,), (atom(P, 0), TRUE))), ())

    def test_follows_in_all(self):
        self.assertIs(follows_in_all(self.book, atom(P, 1)), True)
        self.assertIs(follows_in_all(book=self.book, question=atom(P, 0)), False)
        self.assertIs(follows_in_all(self.book, neg(atom(R, 0, 1))), True)
        self.assertIs(follows_in_all(self.book, ("some", (4,), sort(0, 4), atom(P, 4))), True)
        self.assertIs(follows_in_all((ARROWS, (ONCE, NO_P), (0,), (TRUE,)), FALSE), True)
        self.assertIs(follows_in_all((ARROWS, (), (), ()), FALSE), False)

    def test_made(self):
        seen = {True: 0, False: 0}
        for seed in range(120):
            book = made_book((SMALL, TWO)[seed % 2], seed, 3, 2, 4)
            question = made_question(book, seed, 2)
            mends = fact_mends(book)
            self.assertEqual(mends, slow_lists(len(book[3]), lambda lot: not has_store(with_facts(book, lot)))[1])
            told = all(follows(with_facts(book, lot), question)[0] for lot in mends)
            self.assertIs(follows_in_all(book, question), told)
            seen[told] += 1
        self.assertGreater(min(list(seen.values())), 20)

    def test_eight_and_nine_facts(self):
        facts = tuple(fact for name in range(4) for fact in (atom(P, name), neg(atom(P, name))))
        book = (ARROWS, (), (0,) * 4, facts)
        self.assertEqual(fact_mends(book), tuple(itertools.product((0, 1), (2, 3), (4, 5), (6, 7))))
        self.assertIs(follows_in_all(book, either(atom(P, 0), neg(atom(P, 0)))), True)
        self.assertIs(follows_in_all(book, atom(P, 3)), False)
        for call in (fact_mends, lambda told: follows_in_all(told, None), lambda told: follows_in_all(told, TRUE)):
            for language, forms in ((ARROWS, (ONCE, NO_P)), (ELEVEN, ())):
                with self.assertRaises(TooMany):
                    call((language, forms, (0,), (atom(0, 0),) * 9))

    def test_too_many(self):
        for language, forms in ((ELEVEN, ()), (WIDE, wide_forms(475))):
            for call in (fact_mends, lambda told: follows_in_all(told, None)):
                with self.assertRaises(TooMany):
                    call((language, forms, (0,), (FALSE,)))
        seven = both(*[("some", (number,), atom(P, number), TRUE) for number in range(7)])
        with self.assertRaises(TooMany):
            follows_in_all((ARROWS, (), (), ()), seven)
        # no set of facts is come to, so the question is not looked at
        self.assertIs(follows_in_all((ARROWS, (ONCE, NO_P), (), ()), seven), True)


if __name__ == "__main__":
    unittest.main()
