"""[32], [33]: papers for what follows by plain rules, and for what does not."""

import random
import unittest

from bagkinds.lines import bar, check_bar, check_derived, derive
from tests.helpers import JUNK, atom, deep, is_plain_value, item_at, places_in, replaced, slow_row_atoms, sort, spoilt
from tests.slow_plain import CLASH, PLAIN, SORTED, plain_book, slow_bar, slow_derived, slow_facts
from tests.test_plain import P, Q, R, clash, counter, once, rule, some

# each thing with p has an r-next with q; what has an r-next with q has q itself
BACK = (some(atom(P, 0), (), atom(R, 0, 1), atom(Q, 1)), rule(atom(R, 0, 1), (atom(Q, 1),), atom(Q, 0)))
BOOK = (PLAIN, BACK, (0, 0), (atom(P, 1), atom(R, 0, 1)))
PAPER = (
    (((1,), 4, (Q, (1,))), ((0, 1), 7, (Q, (0,)))),
    (
        ((0, 0), ((R, (0, 1)), (P, (0,)), (Q, (1,))), (R, (0, 1)), ("given",)),
        ((0, 0), ((R, (0, 1)), (P, (0,)), (Q, (1,))), (Q, (1,)), ("given",)),
        ((0, 0), ((R, (0, 1)), (P, (0,)), (Q, (1,))), (Q, (0,)), ("rule", 1, (0, 1), (0, 1))),
        ((0,), ((P, (0,)),), (P, (0,)), ("given",)),
        ((0,), ((P, (0,)),), (Q, (0,)), ("below", 0, (0,), (3,), 2, (0, 1))),
        ((0, 0), ((R, (0, 1)), (Q, (1,))), (Q, (1,)), ("given",)),
        ((0, 0), ((R, (0, 1)), (Q, (1,))), (R, (0, 1)), ("given",)),
        ((0, 0), ((R, (0, 1)), (Q, (1,))), (Q, (0,)), ("rule", 1, (0, 1), (5, 6, 5))),
    ),
)
GOAL = (Q, (0,))


class PaperTest(unittest.TestCase):
    def right(self, value, book=BOOK, goal=GOAL):
        self.assertTrue(slow_derived(book, goal, value))
        self.assertIs(check_derived(book, goal, value), True)

    def wrong(self, value, book=BOOK, goal=GOAL):
        self.assertIs(check_derived(book, goal, value), False)


class DeriveTest(PaperTest):
    def test_atoms(self):
        for goal in ((Q, (0,)), (Q, (1,)), (P, (1,)), (R, (0, 1))):
            self.right(derive(BOOK, goal), BOOK, goal)
            self.assertEqual(derive(book=BOOK, atom=goal), derive(BOOK, goal))
            self.assertTrue(is_plain_value(derive(BOOK, goal)))
        for goal in ((P, (0,)), (R, (1, 0)), CLASH):
            self.assertIsNone(derive(BOOK, goal))

    def test_steps_refer_to_right_lines(self):
        steps, lines = derive(BOOK, (Q, (0,)))
        self.assertEqual(steps[-1][2], (Q, (0,)))
        for names, line, gained in steps:
            sorts, atoms, inner, _ = lines[line]
            self.assertEqual((inner[0], tuple(names[slot] for slot in inner[1])), gained)
            self.assertEqual(len(sorts), len(names))
        self.assertEqual(derive(BOOK, (P, (1,)))[0][0][2], (P, (1,)))

    def test_clash(self):
        forms = BACK + (clash(atom(R, 0, 1), atom(Q, 0), atom(P, 1)),)
        book = (PLAIN, forms, (0, 0), (atom(P, 1), atom(R, 0, 1)))
        for goal in (CLASH, (P, (0,)), (R, (1, 1))):
            self.right(derive(book, goal), book, goal)
            self.assertIn(derive(book, goal)[0][-1][2], (CLASH, goal))
        below = (PLAIN, (BACK[0], clash(atom(R, 0, 1), atom(Q, 1))), (0,), (atom(P, 0),))
        self.right(derive(below, CLASH), below, CLASH)

    def test_once(self):
        forms = (BACK[0], once(atom(R, 4, 3), atom(P, 4), atom(P, 3)), clash(atom(R, 0, 1), atom(P, 0), atom(Q, 1)))
        for names, facts in (((), ()), ((0, 0), (atom(Q, 1),))):
            book = (PLAIN, forms, names, facts)
            told = derive(book, CLASH)
            self.assertEqual((len(told[0]), told[0][0][0], told[0][0][2]), (1, 1, CLASH))
            self.right(told, book, CLASH)
            if names:
                self.right(derive(book, (P, (0,))), book, (P, (0,)))
                self.right(derive(book, (Q, (1,))), book, (Q, (1,)))

    def test_sorts_in_the_order_of_names(self):
        forms = (rule(atom(1, 0, 1, 2), (atom(0, 1, 0),), atom(3, 1)), rule(atom(1, 0, 1, 2), (), atom(0, 1, 2)),
                 some(atom(3, 0), (), atom(0, 0, 1), atom(2, 1)), rule(atom(0, 0, 1), (atom(2, 1),), atom(0, 0, 1)))
        book = (SORTED, forms, (1, 0, 0), (atom(1, 2, 0, 1), atom(0, 0, 2)))
        for goal in slow_facts(book):
            self.right(derive(book, goal), book, goal)
        self.assertIn((3, (0,)), slow_facts(book))

    def test_chains(self):
        for end in (3, 30):
            language, forms = counter(5, end)
            book = (language, forms, (0,), (atom(0, 0),))
            told = derive(book, (6, (0,)))
            self.assertGreater(len(told[1]), 3 * end)
            self.assertIs(check_derived(book, (6, (0,)), told), True)
            self.right(told, book, (6, (0,)))

    def test_made(self):
        seen = {True: 0, False: 0}
        for seed in range(300):
            book = plain_book(seed, 4 + seed % 14, 3, 5)
            facts = slow_facts(book)
            chance = random.Random(seed)
            goals = [CLASH] + [pair for pair in slow_row_atoms(book[0], book[2]) if chance.random() < 0.4]
            for goal in goals:
                told, barred = derive(book, goal), bar(book, goal)
                follows = facts == CLASH or goal in facts
                self.assertEqual((told is not None, barred is None), (follows, follows))
                seen[follows] += 1
                if follows:
                    self.right(told, book, goal)
                else:
                    self.assertTrue(slow_bar(book, goal, barred))
                    self.assertIs(check_bar(book, goal, barred), True)
                self.assertEqual((derive(book, goal), bar(book, goal)), (told, barred))
                self.assertTrue(is_plain_value((told, barred)))
        self.assertGreater(min(list(seen.values())), 200)


class CheckDerivedTest(PaperTest):
    def test_right(self):
        self.right(PAPER)
        self.assertIs(check_derived(book=BOOK, atom=GOAL, value=PAPER), True)
        self.wrong(PAPER, BOOK, (Q, (1,)))
        self.wrong(PAPER, BOOK, CLASH)
        self.right((PAPER[0][:1], PAPER[1]), BOOK, (Q, (1,)))
        self.wrong((PAPER[0][1:], PAPER[1]))
        self.wrong(((), PAPER[1]))
        self.wrong(PAPER[::-1])

    def test_written_by_another_hand(self):
        steps, lines = PAPER
        # lines that are not needed, also twice
        self.right((steps, lines + lines[5:7] + (lines[3],)))
        # steps that are not needed, twice, and facts
        self.right(((((1,), 3, (P, (1,))),) + steps[:1] * 2 + steps[1:], lines))
        # another order
        order = (3, 1, 0, 2, 4, 6, 5, 7)
        place = {old: new for new, old in enumerate(order)}
        moved = []
        for old in order:
            sorts, atoms, gained, reason = lines[old]
            if reason[0] == "rule":
                reason = reason[:3] + (tuple(place[ref] for ref in reason[3]),)
            elif reason[0] == "below":
                reason = reason[:3] + (tuple(place[ref] for ref in reason[3]), place[reason[4]], reason[5])
            moved.append((sorts, atoms, gained, reason))
        self.right((tuple((who, place[line], gained) for who, line, gained in steps), tuple(moved)))
        # the set below with its slots the other way round
        turned = tuple(
            ((0, 0), ((R, (1, 0)), (P, (1,)), (Q, (0,))), gained, reason) for gained, reason in (
                ((R, (1, 0)), ("given",)), ((Q, (0,)), ("given",)), ((Q, (1,)), ("rule", 1, (1, 0), (1, 0)))))
        below = ((0,), ((P, (0,)),), (Q, (0,)), ("below", 0, (0,), (3, 3), 2, (1, 0)))
        self.right((steps, turned + lines[3:4] + (below,) + lines[5:]))

    def test_lines_refer_to_earlier_ones(self):
        for number, ref in ((2, 2), (2, 3), (2, 8), (2, -1), (7, 7), (7, 8)):
            line = PAPER[1][number]
            self.wrong((PAPER[0], replaced(PAPER[1], (number,), line[:3] + (line[3][:3] + (line[3][3] + (ref,),),))))
        for ref in (4, 5, 8, -1, 3, 0):
            self.wrong((PAPER[0], replaced(PAPER[1], (4, 3, 4), ref)))
        # a line that is right, but for another set
        self.wrong((PAPER[0], replaced(PAPER[1], (7, 3, 3), (0, 5, 6))))
        self.wrong((PAPER[0], replaced(PAPER[1], (7, 3, 3), (0, 1))))

    def test_one_thing_wrong(self):
        for path, fresh in (
            ((0, 0), (0, 1)), ((0, 0), ()), ((0, 0), (0,)), ((0, 0), (0, 0, 0)), ((0, 1), ((R, (0, 1)), (Q, (1,)))),
            ((0, 1), ((P, (0,)), (R, (0, 1)), (Q, (1,)))), ((0, 2), (R, (1, 0))), ((0, 2), CLASH), ((0, 3), ("rule",)),
            ((2, 2), (Q, (1,))), ((2, 2), CLASH), ((2, 2), (P, (0,))), ((2, 3, 1), 0), ((2, 3, 1), 2), ((2, 3, 1), -1),
            ((2, 3, 2), (1, 0)), ((2, 3, 2), (0,)), ((2, 3, 2), (0, 2)), ((2, 3, 2), (0, 1, 0)), ((2, 3, 3), (0,)), ((2, 3, 3), ()),
            ((4, 2), (P, (0,))), ((4, 2), (R, (0, 0))), ((4, 2), CLASH), ((4, 3, 1), 1), ((4, 3, 2), (1,)), ((4, 3, 2), ()),
            ((4, 3, 3), ()), ((4, 3, 4), 1), ((4, 3, 4), 0), ((4, 3, 5), (1, 0)), ((4, 3, 5), (0,)), ((4, 3, 5), (0, 0)),
            ((4, 3, 5), (0, 1, 1)), ((4, 3, 5), (0, 2)), ((2, 2), ("clash",)), ((7, 3, 0), "given"), ((3, 3, 0), "below"),
        ):
            self.wrong((PAPER[0], replaced(PAPER[1], path, fresh)))
        for path, fresh in (
            ((0, 0), (0,)), ((0, 0), (0, 1)), ((0, 0), ()), ((0, 0), (2,)), ((0, 1), 3), ((0, 1), 8), ((0, 2), (Q, (0,))),
            ((0, 2), CLASH), ((1, 0), (1, 0)), ((1, 0), (0, 0)), ((1, 1), 2), ((1, 2), (Q, (1,))), ((0, 0), 0), ((0, 0), 1),
        ):
            self.wrong((replaced(PAPER[0], path, fresh), PAPER[1]))

    def test_new_variables_on_shared_slots(self):
        """A head that stands on one slot for its shared and its new variable is none."""
        lines = PAPER[1][:3] + (((0,), ((R, (0, 0)), (Q, (0,))), (Q, (0,)), ("given",)),) + PAPER[1][3:4]
        line = ((0,), ((P, (0,)),), (Q, (0,)), ("below", 0, (0,), (4,), 3, (0, 0)))
        self.wrong((((((1,), 5, (Q, (1,))),)), lines + (line,)), BOOK, (Q, (1,)))

    def test_shared_variables_on_one_slot(self):
        language = (1, (("t", (0, 0, 0)), ("r", (0, 0)), ("p", (0,))))
        forms = (some(atom(1, 0, 1), (), atom(0, 0, 1, 2)), rule(atom(0, 0, 0, 1), (), atom(2, 0)))
        given = (((0, 0), ((0, (0, 0, 1)),), (0, (0, 0, 1)), ("given",)),
                 ((0, 0), ((0, (0, 0, 1)),), (2, (0,)), ("rule", 1, (0, 1), (0,))))
        book = (language, forms, (0, 0), (atom(1, 0, 1), atom(1, 0, 0)))
        one = (((0,), ((1, (0, 0)),), (1, (0, 0)), ("given",)),
               ((0,), ((1, (0, 0)),), (2, (0,)), ("below", 0, (0, 0), (2,), 1, (0, 0, 1))))
        self.right(((((0,), 3, (2, (0,))),), given + one), book, (2, (0,)))
        two = (((0, 0), ((1, (0, 1)),), (1, (0, 1)), ("given",)),
               ((0, 0), ((1, (0, 1)),), (2, (0,)), ("below", 0, (0, 1), (2,), 1, (0, 0, 1))))
        self.wrong(((((0, 1), 3, (2, (0,))),), given + two), book, (2, (0,)))
        # two slots below for what is one slot above
        wide = (((0, 0, 0), ((0, (0, 1, 2)), (2, (0,))), (2, (0,)), ("given",)),)
        line = ((0,), ((1, (0, 0)),), (2, (0,)), ("below", 0, (0, 0), (1,), 0, (0, 1, 2)))
        self.wrong(((((0,), 2, (2, (0,))),), wide + one[:1] + (line,)), book, (2, (0,)))

    def test_atoms_that_are_not_gained_above(self):
        lines = list(PAPER[1])
        more = ((R, (0, 1)), (P, (0,)), (Q, (0,)), (Q, (1,)))
        self.wrong((PAPER[0], tuple((line[0], more) + line[2:] if at < 3 else line for at, line in enumerate(lines))))
        less = ((R, (0, 1)), (Q, (1,)))
        self.right((PAPER[0], tuple((line[0], less) + line[2:] if at < 3 else line for at, line in enumerate(lines))))
        for atoms in (((R, (0, 1)),), ((Q, (1,)),), ((R, (0, 1)), (P, (1,)), (Q, (1,)))):
            self.wrong((PAPER[0], tuple((line[0], atoms) + line[2:] if at < 3 else line for at, line in enumerate(lines))))

    def test_steps(self):
        lines = PAPER[1]
        # the atoms of the line are no facts, and not gained before
        self.wrong(((((0,), 4, (Q, (0,))),), lines))
        self.wrong(((PAPER[0][1], PAPER[0][0]), lines))
        book = BOOK[:2] + ((0, 0), (atom(P, 1),))
        self.wrong(PAPER, book)
        self.wrong((((0, 4, CLASH),), lines), BOOK, CLASH)

    def test_once_steps(self):
        forms = (once(atom(R, 4, 3), atom(P, 4)), clash(atom(R, 0, 1), atom(P, 1)), once(atom(R, 3, 4), atom(P, 4)))
        book = (PLAIN, forms, (0, 0), ())
        lines = (((0, 0), ((R, (1, 0)), (P, (0,))), (R, (1, 0)), ("given",)),
                 ((0, 0), ((R, (1, 0)), (P, (0,))), (P, (0,)), ("given",)),
                 ((0, 0), ((R, (1, 0)), (P, (0,))), CLASH, ("rule", 1, (1, 0), (0, 1))),
                 ((0, 0), ((R, (0, 1)), (P, (1,))), (R, (0, 1)), ("given",)),
                 ((0, 0), ((R, (0, 1)), (P, (1,))), (P, (1,)), ("given",)),
                 ((0, 0), ((R, (0, 1)), (P, (1,))), CLASH, ("rule", 1, (0, 1), (3, 4))))
        self.right((((2, 5, CLASH),), lines), book, CLASH)
        self.right((((2, 5, CLASH),), lines), book, (Q, (1,)))
        for step in ((0, 2, CLASH), (0, 5, CLASH), (2, 2, CLASH), (1, 5, CLASH), (3, 5, CLASH), (-1, 5, CLASH), (True, 5, CLASH),
                     (2, 4, CLASH), (2, 4, (P, (1,))), (2, 5, (P, (1,))), (2, 6, CLASH), (2, False, CLASH), ((0, 1), 5, CLASH)):
            self.wrong(((step,), lines), book, CLASH)

    def test_other_forms(self):
        for path, value in spoilt(PAPER):
            told = check_derived(BOOK, GOAL, value)
            self.assertIs(told, bool(told) and slow_derived(BOOK, GOAL, value))
        for value in JUNK + (deep(30), (deep(29), ()), ((), deep(29)), (PAPER[0], deep(29)), ((deep(28),), PAPER[1])):
            self.wrong(value)

    def test_true_and_false_are_no_numbers(self):
        for path in places_in(PAPER):
            if type(item_at(PAPER, path)) is int:
                for fresh in (True, False, None, str(item_at(PAPER, path)), (item_at(PAPER, path),)):
                    self.wrong(replaced(PAPER, path, fresh))

    def test_large_values(self):
        lines = PAPER[1]
        for many in (lines * 60, (lines[0],) * 2000, (deep(25),) * 700, (lines[3],) * 1500 + ((True,),)):
            told = check_derived(BOOK, GOAL, (PAPER[0], lines + many))
            self.assertIs(told, slow_derived(BOOK, GOAL, (PAPER[0], lines + many)) if many[-1] in lines else False)
        line = ((0,), ((P, (0,)),), (P, (0,)), ("given",))
        wide = ((0,), ((P, (0,)),), (Q, (0,)), ("below", 0, (0,), (3,) * 9000, 2, (0, 1)))
        self.right((PAPER[0], lines[:3] + (line, wide) + lines[5:]))


BARRED = ((P, (0,)))
FAMILY = (
    (((R, (0, 1)), (P, (1,)), (Q, (0,)), (Q, (1,)))),
    (((0,), ((Q, (0,)),)), ((0,), ((P, (0,)), (Q, (0,)))), ((0, 0), ((R, (0, 1)), (P, (1,)), (Q, (0,)), (Q, (1,)))),
     ((0, 0), ((R, (0, 1)), (P, (0,)), (Q, (0,)), (Q, (1,))))),
)


class BarTest(unittest.TestCase):
    def right(self, value, book=BOOK, goal=BARRED):
        self.assertTrue(slow_bar(book, goal, value))
        self.assertIs(check_bar(book, goal, value), True)

    def wrong(self, value, book=BOOK, goal=BARRED):
        self.assertIs(check_bar(book, goal, value), False)

    def test_bar(self):
        for goal in (BARRED, (R, (1, 0)), CLASH):
            told = bar(BOOK, goal)
            self.assertEqual(told[0], FAMILY[0])
            self.right(told, BOOK, goal)
            self.assertEqual(bar(book=BOOK, atom=goal), told)
        self.assertIsNone(bar(BOOK, GOAL))
        self.assertEqual(bar((PLAIN, (), (), ()), CLASH), ((), ()))
        self.right(((), ()), (PLAIN, BACK, (), ()), CLASH)

    def test_books_that_clash(self):
        for forms in ((clash(sort(0, 0)),), (once(atom(R, 0, 1)), clash(atom(R, 0, 1)))):
            book = (PLAIN, forms, (0,), ())
            self.assertIsNone(bar(book, CLASH))
            self.assertIsNone(bar(book, (P, (0,))))
            for value in (((), (((0,), ()),)), ((), ()), ((), (((0,), ()), ((0, 0), ((R, (0, 1)),))))):
                self.wrong(value, book, CLASH)
                self.wrong(value, book, (P, (0,)))

    def test_written_by_another_hand(self):
        facts, family = FAMILY
        self.right(FAMILY)
        self.assertIs(check_bar(book=BOOK, atom=BARRED, value=FAMILY), True)
        self.right((facts, family[::-1]))
        self.right((facts, family * 3))
        self.right((facts, family + (((0,), ()), ((0, 0, 0), ((R, (0, 1)),)))))
        self.right((facts, family[:3] + (((0, 0), ((R, (1, 0)), (P, (1,)), (Q, (0,)), (Q, (1,)))),)))
        # more facts than there must be
        more = tuple(sorted(facts + ((R, (0, 0)),)))
        told = tuple(sorted(((R, (0, 0)), (R, (0, 1)), (P, (1,)), (Q, (0,)), (Q, (1,)))))
        self.right((more, family + (((0,), ((R, (0, 0)), (Q, (0,)))), ((0, 0), told))))
        # more in a set below, where it is over new slots
        self.right((facts, family[:3] + (((0, 0), ((R, (0, 1)), (R, (1, 1)), (P, (0,)), (Q, (0,)), (Q, (1,)))),)))

    def test_one_thing_wrong(self):
        facts, family = FAMILY
        for number in range(len(facts)):
            self.wrong((facts[:number] + facts[number + 1:], family))
        for number in range(len(family)):
            self.wrong((facts, family[:number] + family[number + 1:]))
        self.wrong((facts[::-1], family))
        self.wrong((facts + facts[-1:], family))
        self.wrong((facts, family), BOOK, facts[0])
        self.wrong((tuple(sorted(facts + (BARRED,))), family))
        # a set that is broken by a rule
        self.wrong((facts, family + (((0, 0), ((R, (0, 1)), (Q, (1,)))),)))
        # a need without a set
        self.wrong((facts, family + (((0,), ((P, (0,)),)),)))
        # more over the shared slot than above
        self.wrong((facts, family[:3] + (((0, 0), ((R, (0, 0)), (R, (0, 1)), (P, (0,)), (Q, (0,)), (Q, (1,)))),)))
        # a set that is not told for the names, but for other slots
        self.wrong((facts, family[:2] + (((0, 0), ((R, (1, 0)), (P, (0,)), (Q, (0,)), (Q, (1,)))),) + family[3:]))
        for pair in (((), ()), ((1,), ()), ((0,) * 5, ()), ((0,), ((R, (0, 1)),)), ((0,), ((3, (0,)),)), ((0,),), (0, ()),
                     ((0,), ((Q, (0,)), (P, (0,)))), ((0,), ((Q, (0,)), (Q, (0,)))), ((0,), ((Q, (False,)),))):
            self.wrong((facts, family + (pair,)))

    def test_clash_in_a_set(self):
        book = (PLAIN, BACK + (clash(atom(R, 0, 1), atom(R, 1, 0)),), (0, 0), (atom(P, 1), atom(R, 0, 1)))
        self.right(FAMILY, book)
        self.wrong((FAMILY[0], FAMILY[1] + (((0, 0), ((R, (0, 1)), (R, (1, 0)))),)), book)

    def test_once(self):
        book = BOOK[:1] + (BACK + (once(atom(R, 8, 7), atom(R, 7, 8), atom(P, 7)),),) + BOOK[2:]
        self.wrong(FAMILY, book)
        for slot in (0, 1):
            pair = ((0, 0), ((R, (0, 1)), (R, (1, 0)), (P, (slot,)), (Q, (0,)), (Q, (1,))))
            self.wrong((FAMILY[0], FAMILY[1] + (((0, 0), pair[1][:1] + pair[1][2:]),)), book)
            self.right((FAMILY[0], FAMILY[1] + (pair,)), book)
        self.right(bar(book, CLASH), book, CLASH)

    def test_sorts_in_any_order(self):
        forms = (some(atom(3, 0), (), atom(1, 1, 0, 2), atom(2, 1)), once(atom(0, 1, 0)))
        book = (SORTED, forms, (1, 0, 0), (atom(0, 0, 2), atom(3, 0)))
        told = bar(book, CLASH)
        self.right(told, book, CLASH)
        self.assertIn(((1, 0), ((0, (0, 1)), (3, (0,)))), told[1])
        moved = tuple((sorts[::-1], tuple(sorted((number, tuple(len(sorts) - 1 - slot for slot in row)) for number, row in has)))
                      for sorts, has in told[1])
        self.right((told[0], told[1] + moved), book, CLASH)

    def test_other_forms(self):
        for path, value in spoilt(FAMILY):
            told = check_bar(BOOK, BARRED, value)
            self.assertIs(told, bool(told) and slow_bar(BOOK, BARRED, value))
        for value in JUNK + (deep(30), (deep(29), ()), ((), deep(29)), (FAMILY[0], deep(29)), (FAMILY[0], (deep(28),))):
            self.wrong(value)
        for path in places_in(FAMILY):
            if type(item_at(FAMILY, path)) is int:
                for fresh in (True, False, None, str(item_at(FAMILY, path))):
                    self.wrong(replaced(FAMILY, path, fresh))

    def test_large_values(self):
        facts, family = FAMILY
        self.right((facts, family * 150))
        self.wrong((facts, family + ((),) * 9000))
        self.wrong((facts + ((Q, (0,)),) * 3000, family))
        sets = []
        for number in range(2 ** 10):
            pairs = [(k // 3, (k % 3,)) if k // 3 else (0, (k, (k + 1) % 3)) for k in range(9) if number >> k & 1]
            if all((P, (slot,)) not in pairs for slot in range(3)):
                sets.append(((0, 0, 0), tuple(sorted(pairs))))
        book = (PLAIN, (BACK[0],), (0, 0), (atom(Q, 1),))
        first = (((Q, (1,)),), (((0,), ()), ((0,), ((Q, (0,)),))))
        self.assertIs(check_bar(book, BARRED, (first[0], first[1] + tuple(sets))), True)


class MutationTest(unittest.TestCase):
    def test_small_changes(self):
        """Papers with small changes are taken exactly where a slow reading takes them."""
        seen = {True: 0, False: 0}
        for seed in range(60):
            book = plain_book(seed, 14, 3, 5)
            chance = random.Random(seed)
            goals = [CLASH] + [pair for pair in slow_row_atoms(book[0], book[2]) if chance.random() < 0.3]
            for goal in goals:
                told, check, slow = derive(book, goal), check_derived, slow_derived
                if told is None:
                    told, check, slow = bar(book, goal), check_bar, slow_bar
                for _ in range(25):
                    paths = [path for path in places_in(told) if type(item_at(told, path)) is int]
                    value = told
                    if paths:
                        path = chance.choice(paths)
                        value = replaced(told, path, max(0, item_at(told, path) + chance.choice((-1, 1, 2))))
                    found = check(book, goal, value)
                    self.assertIs(found, bool(slow(book, goal, value)))
                    seen[found] += 1
        self.assertGreater(min(list(seen.values())), 300)


if __name__ == "__main__":
    unittest.main()
