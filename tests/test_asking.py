"""Section 24: which questions to ask."""

import itertools
import random
import unittest

from dyedpours.asking import asks, shows_asks, wanted
from dyedpours.errors import BadQuestion, BadQuestions, NoMixing
from dyedpours.lots import ranges
from dyedpours.moves import all_spots
from dyedpours.questions import known
from dyedpours.yards import Yard
from tests.helpers import (
    EMPTY, LARGE, NONE, ODD, TWO, YARD, fitting_ones, gives, raises, some_yards,
)
from tests.test_mixings import NO_MIXINGS, ROW
from tests.test_questions import MUCH, NO_QUESTIONS, answers_of, some_question

SOME = ((('by', 2), 2), (('by', 4), 1))
FIVE = tuple((('by', 2), number) for number in range(1, 6))
NO_LISTS = tuple(value for value in ODD if value != ()) + (
    MUCH, list(SOME), (MUCH, MUCH), (MUCH, None), FIVE, [MUCH], ((MUCH, True),), (MUCH, SOME), {MUCH: 1},
) + tuple((value,) for value in NO_QUESTIONS)


def all_trees(rows, aims, depth):
    """All trees for rows of answers, each with what it needs, that ask at most so often; every order and repetition."""
    if not rows:
        return [(0, None)]
    found = []
    words = {aims[row] for row in rows}
    if len(words) == 1:
        found.append((0, ('is', words.pop())))
    if depth == 0:
        return found
    for at in range(len(rows[0])):
        yes = all_trees([row for row in rows if row[at]], aims, depth - 1)
        no = all_trees([row for row in rows if not row[at]], aims, depth - 1)
        for (one, tree), (other, its) in itertools.product(yes, no):
            found.append((1 + max(one, other), ('ask', at, tree, its)))
    return found


def told_by(yard, rows, questions, aim):
    """By what mixings answer to all questions, what they answer to aim: True, False, or both."""
    found = {}
    for row in rows:
        words = tuple(answers_of(yard, row, question) for question in questions)
        found.setdefault(words, set()).add(answers_of(yard, row, aim))
    return found


def least_need(found):
    """The least number that some tree needs, all sequences of questions tried; None if there is no tree."""
    many = len(next(iter(found)))

    def need(left):
        if len({word for words in left for word in found[words]}) < 2:
            return 0
        best = many + 1
        for at in range(many):
            yes, no = [words for words in left if words[at]], [words for words in left if not words[at]]
            if yes and no:
                best = min(best, 1 + max(need(yes), need(no)))
        return best

    return None if any(len(its) == 2 for its in found.values()) else need(list(found))


def some_case(dice, yard, rows, most):
    """Some questions, so many at the most, and an aim."""
    questions = tuple(dict.fromkeys(some_question(dice, yard, rows) for _ in range(dice.randint(0, most))))
    return questions, some_question(dice, yard, rows)


def hard_case(dice, yard, rows, most):
    """The one of some cases of which the least tree needs most."""
    cases = [some_case(dice, yard, rows, most) for _ in range(8)]
    return max(cases, key=lambda case: least_need(told_by(yard, rows, *case)) or 0)


class Asks(unittest.TestCase):
    def test_the_example(self):
        tree = ('ask', 0, ('is', False), ('is', True))
        gives(self, ('plan', 1, tree), asks, YARD, SOME[:1], MUCH)
        gives(self, 'open', lambda: asks(YARD, SOME[1:], MUCH)[0])
        gives(self, (0,), wanted, YARD, SOME, MUCH)
        gives(self, None, wanted, YARD, SOME[1:], MUCH)

    def is_open(self, yard, rows, questions, aim, told):
        """Whether two rows that were told answer all questions alike, and aim True and False."""
        word, row, other = told
        self.assertEqual(word, 'open')
        self.assertTrue(row in rows and other in rows)
        for question in questions:
            self.assertEqual(answers_of(yard, row, question), answers_of(yard, other, question))
        return answers_of(yard, row, aim) and not answers_of(yard, other, aim)

    def test_small_yards(self):
        dice, met = random.Random(170), []
        for yard in some_yards(170, 300):
            rows = fitting_ones(yard)
            for _ in range(4 if rows and len(yard) else 0):
                questions, aim = dice.choice((some_case, hard_case))(dice, yard, rows, 4)
                found = told_by(yard, rows, questions, aim)
                number = least_need(found)
                told = asks(yard=yard, questions=questions, aim=aim)
                gives(self, True, shows_asks, yard=yard, questions=questions, aim=aim, value=told)
                met.append(number)
                if number is None:
                    self.assertTrue(self.is_open(yard, rows, questions, aim, told))
                    gives(self, None, wanted, yard=yard, questions=questions, aim=aim)
                    continue
                self.assertEqual(told[:2], ('plan', number))
                self.assertEqual(len(told), 3)
                left_out = [questions[:at] + questions[at + 1:] for at in range(len(questions))]
                lacking = [least_need(told_by(yard, rows, its, aim)) is None for its in left_out]
                gives(
                    self, tuple(at for at, its in enumerate(lacking) if its), wanted,
                    yard=yard, questions=questions, aim=aim,
                )
        for number in (None, 0, 1, 2):
            self.assertGreater(met.count(number), 15, number)

    def test_least_trees_against_all_trees(self):
        dice, met = random.Random(171), []
        for yard in some_yards(171, 120):
            rows = fitting_ones(yard)
            for _ in range(3 if rows and len(yard) else 0):
                questions, aim = hard_case(dice, yard, rows, 3)
                found = told_by(yard, rows, questions, aim)
                if any(len(its) == 2 for its in found.values()):
                    continue
                aims = {words: its.copy().pop() for words, its in found.items()}
                trees = all_trees(list(found), aims, min(2, len(questions)))
                told = asks(yard, questions, aim)
                least = min((need for need, _ in trees), default=3)
                self.assertEqual(min(told[1], 3), least)
                met.append(least)
                for need, tree in dice.sample(trees, min(5, len(trees))) + [its for its in trees if its[0] == least][:4]:
                    gives(self, need == least, shows_asks, yard, questions, aim, ('plan', need, tree))
                    gives(self, False, shows_asks, yard, questions, aim, ('plan', need + dice.choice((-1, 1)), tree))
        for number in (0, 1, 2):
            self.assertGreater(met.count(number), 10, number)

    def test_three_and_four_questions(self):
        # What was drawn is known as soon as what is in each glass is; one dyed grain is in one of five places.
        yard = Yard('vessels a\ndye a 1\nfill a 4\ndraw a 1\ndraw a 1\ndraw a 1\ndraw a 1')
        glasses = tuple((('by', step), 1) for step in (2, 3, 4, 5))
        left = (('in', 'a', 6), 1)
        told = asks(yard, glasses, left)
        gives(self, ('plan', 4), lambda: told[:2])
        gives(self, True, shows_asks, yard, glasses, left, told)
        gives(self, (0, 1, 2, 3), wanted, yard, glasses, left)
        _, at, yes, no = told[2]
        gives(self, ('is', False), lambda: yes)
        for tree, answer in (
            (None, True), (('is', False), False), (('ask', at, None, None), False), (yes, False), (no, False),
        ):
            value = ('plan', 4, ('ask', at, ('ask', at, yes, tree), no))
            gives(self, answer, shows_asks, yard, glasses, left, value)
        for number in range(4):
            gives(self, 'open', lambda: asks(yard, glasses[:number] + glasses[number + 1:], left)[0])
        halves = (glasses[0], glasses[1], (('in', 'a', 4), 1))
        gives(self, ('plan', 1), lambda: asks(yard, halves, halves[2])[:2])
        gives(self, ('plan', 2), lambda: asks(yard, halves[:2], halves[2])[:2])
        gives(self, (1,), wanted, yard, halves[1:], halves[2])
        gives(self, (), wanted, yard, halves, halves[2])

    def test_the_aim_is_known_or_among_the_questions(self):
        gives(self, ('plan', 0, ('is', True)), asks, YARD, (), (('by', 1), 4))
        gives(self, ('plan', 0, ('is', False)), asks, YARD, SOME, (('by', 0), 1))
        gives(self, (), wanted, YARD, SOME, (('by', 0), 1))
        gives(self, (), wanted, YARD, (), (('by', 1), 4))
        gives(self, ('plan', 1, ('ask', 1, ('is', True), ('is', False))), asks, YARD, SOME, SOME[1])
        gives(self, None, wanted, YARD, (), MUCH)
        gives(self, ('plan', 1, ('ask', 0, ('is', True), ('is', False))), asks, YARD, (MUCH,), MUCH)

    def test_the_largest_yard(self):
        dice, met = random.Random(172), []
        for yard in (LARGE, LARGE.bare()):
            spread = [(spot, low, high) for spot, (low, high) in zip(all_spots(yard), ranges(yard)) if low < high]
            for _ in range(30):
                aim_spot, low, high = dice.choice(spread)
                aim = (aim_spot, dice.randint(low + 1, high))
                questions = {}
                for spot, low, high in dice.sample(spread, 3) + [(aim_spot, low, high)]:
                    questions[(spot, dice.randint(low + 1, high))] = True
                questions = tuple(questions)[:3] + ((aim,) if dice.random() < 0.3 else ())
                self.assertIsNone(known(yard, aim))
                told = asks(yard, questions, aim)
                met.append(told[:1])
                gives(self, True, shows_asks, yard, questions, aim, told)
                self.assertEqual(told[0] == 'open', wanted(yard, questions, aim) is None)
        self.assertEqual(len(set(met)), 2)

    def test_wrong_arguments(self):
        for call, more in ((asks, ()), (wanted, ()), (shows_asks, (None,)), (shows_asks, (('plan', 0, ('is', True)),))):
            for value in NO_LISTS:
                raises(self, BadQuestions, value, call, YARD, value, MUCH, *more)
                raises(self, BadQuestions, value, call, YARD, value, None, *more)
                raises(self, NoMixing, NONE, call, NONE, value, None, *more)
            for value in NO_QUESTIONS:
                raises(self, BadQuestion, value, call, YARD, SOME, value, *more)
            raises(self, NoMixing, NONE, call, NONE, SOME, MUCH, *more)
            raises(self, BadQuestion, MUCH, call, EMPTY, (), MUCH, *more)
        gives(self, 'plan', lambda: asks(YARD, FIVE[:4], FIVE[4])[0])


class Shows(unittest.TestCase):
    def test_trees_that_ask_what_all_answer_alike(self):
        questions = (SOME[0], (('by', 0), 1))
        gives(self, ('plan', 1), lambda: asks(YARD, questions, MUCH)[:2])
        right = ('ask', 0, ('is', False), ('is', True))
        gives(self, True, shows_asks, YARD, questions, MUCH, ('plan', 1, right))
        gives(self, False, shows_asks, YARD, questions, MUCH, ('plan', 2, ('ask', 1, None, right)))
        yard = Yard('vessels a\ndye a 1\nfill a 4\ndraw a 1\ndraw a 1')
        glasses, left = ((('by', 2), 1), (('by', 3), 1), (('by', 1), 1)), (('in', 'a', 4), 1)
        last = ('ask', 1, ('is', False), ('is', True))
        gives(self, ('plan', 2), lambda: asks(yard, glasses, left)[:2])
        for tree, answer in (
            (('ask', 0, ('is', False), last), True),
            (('ask', 0, ('ask', 1, None, ('is', False)), last), True),
            (('ask', 0, ('ask', 0, ('is', False), None), last), True),
            (('ask', 0, ('ask', 2, None, ('is', False)), last), True),
            (('ask', 0, ('ask', 2, None, ('ask', 1, None, ('is', False))), last), False),
            (('ask', 2, None, ('ask', 0, ('is', False), last)), False),
            (('ask', 0, ('ask', 1, ('is', False), ('is', False)), last), False),
            (('ask', 0, ('ask', 0, ('is', False), ('is', True)), last), False),
            (('ask', 0, None, last), False), (('ask', 0, ('is', False), None), False),
            (('ask', 0, ('is', True), last), False), (('ask', 0, last, ('is', False)), False),
            (('ask', 0, ('ask', 2, ('is', False), ('is', False)), last), False),
        ):
            gives(self, answer, shows_asks, yard, glasses, left, ('plan', 2, tree))
        gives(self, False, shows_asks, yard, glasses, left, ('plan', 3, ('ask', 2, None, ('ask', 0, ('is', False), last))))

    def test_no_plan_but_the_right_one(self):
        tree = ('ask', 0, ('is', False), ('is', True))
        gives(self, True, shows_asks, YARD, SOME[:1], MUCH, ('plan', 1, tree))
        for value in ODD + (
            ('plan', True, tree), ('plan', 0, tree), ('plan', 2, tree), ('plan', '1', tree), ['plan', 1, tree],
            ('plan', 1), ('plan', 1, tree, 0), ('plan', 1, list(tree)), ('Plan', 1, tree), ('open', 1, tree),
            ('plan', 1, ('ask', 0, ['is', False], ('is', True))), ('plan', 1, ('ask', 0, ('is', 0), ('is', 1))),
            ('plan', 1, ('ask', False, ('is', False), ('is', True))), ('plan', 1, ('ask', 1, ('is', False), ('is', True))),
            ('plan', 1, ('ask', -1, ('is', False), ('is', True))), ('plan', 1, ('ask', 0, ('is', True), ('is', False))),
            ('plan', 1, ('Ask', 0, ('is', False), ('is', True))), ('plan', 1, ('ask', 0, ('is', False))), tree,
            ('plan', 1, ('ask', 0, ('is', False), ('is', True), 0)), ('plan', 1, ('ask', None, ('is', False), ('is', True))),
            ('plan', 1, ('ask', 0, ('in', False), ('is', True))), ('plan', 1, ('is', True)), ('plan', 0, ('is', False)),
            ('plan', 1, None), ('plan', 0, None), ('plan', None, tree),
        ) + tuple((value, 1, tree) for value in ODD) + tuple(('plan', value, tree) for value in ODD):
            gives(self, False, shows_asks, YARD, SOME[:1], MUCH, value)
        for value in ODD:
            gives(self, False, shows_asks, YARD, SOME[:1], MUCH, ('plan', 1, value))
            gives(self, False, shows_asks, YARD, SOME[:1], MUCH, ('plan', 1, ('ask', 0, value, ('is', True))))
            tree = ('ask', 0, ('is', False), ('is', value))
            gives(self, value is True, shows_asks, YARD, SOME[:1], MUCH, ('plan', 1, tree))
            gives(self, False, shows_asks, YARD, SOME[:1], MUCH, ('plan', 1, ('ask', value, ('is', False), ('is', True))))
        gives(self, True, shows_asks, YARD, (), (('by', 1), 4), ('plan', 0, ('is', True)))
        for value in (('plan', False, ('is', True)), ('plan', 0, ('is', 1)), ('plan', 0, ('is', False)), ('plan', 0, None)):
            gives(self, False, shows_asks, YARD, (), (('by', 1), 4), value)

    def test_trees_that_are_far_too_deep(self):
        deep = ('is', True)
        for _ in range(28):
            deep = ('ask', 0, deep, deep)
        for number in (0, 1, 2, 4, 28):
            gives(self, False, shows_asks, YARD, SOME, MUCH, ('plan', number, deep))

    def test_any_two_that_leave_it_open(self):
        dice, met = random.Random(173), []
        for yard in some_yards(173, 150):
            rows = fitting_ones(yard)
            for _ in range(12 if rows and len(yard) else 0):
                questions, aim = some_case(dice, yard, rows, 2)
                one, other = dice.choice(rows), dice.choice(rows)
                right = answers_of(yard, one, aim) and not answers_of(yard, other, aim) and all(
                    answers_of(yard, one, question) == answers_of(yard, other, question) for question in questions
                )
                gives(self, right, shows_asks, yard, questions, aim, ('open', one, other))
                met.append(right)
        self.assertGreater(met.count(True), 20)

    def test_nothing_else_than_open(self):
        told = asks(YARD, SOME[1:], MUCH)
        _, row, other = told
        gives(self, True, shows_asks, YARD, SOME[1:], MUCH, told)
        for value in ODD + (
            ('open', other, row), ('open', row, row), ('open', row), ('open', row, other, 0), ['open', row, other],
            ('open', list(row), other), ('open', row, list(other)), ('Open', row, other), ('plan', row, other),
            ('plan', 1, ('ask', 0, ('is', True), ('is', False))), ('plan', 0, ('is', True)), ('plan', 1, None),
        ) + tuple((value, row, other) for value in ODD):
            gives(self, False, shows_asks, YARD, SOME[1:], MUCH, value)
        for value in NO_MIXINGS:
            gives(self, False, shows_asks, YARD, SOME[1:], MUCH, ('open', row, value))
            gives(self, False, shows_asks, YARD, SOME[1:], MUCH, ('open', value, other))
        # With the sample, only these fit by which the pour leads two grains at least.
        aim = (('by', 2), 3)
        told = asks(TWO, (), aim)
        gives(self, True, shows_asks, TWO, (), aim, told)
        gives(self, True, shows_asks, TWO, (), aim, ('open', told[1], ROW))
        gives(self, False, shows_asks, TWO, (), aim, ('open', told[1], (0, 4, 0, 0, 2)))
        gives(self, True, shows_asks, YARD, (), aim, ('open', told[1], (0, 4, 0, 0, 2)))


if __name__ == '__main__':
    unittest.main()
