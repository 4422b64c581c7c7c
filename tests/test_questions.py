"""Section 23: questions."""

import random
import unittest

from dyedpours.errors import BadAnswers, BadQuestion, BadSpot, NoMixing, NotMixing
from dyedpours.lots import ranges, shows_fitting
from dyedpours.mixings import dye
from dyedpours.moves import all_spots
from dyedpours.questions import (
    answer, known, left_by, shows_left_by, shows_tells, tellers, tells,
)
from dyedpours.yards import Yard
from tests.helpers import (
    EMPTY, LARGE, NONE, ODD, TWO, YARD, all_mixings, fitting_ones, gives, raises, some_yards, spot_dye,
)
from tests.test_cuts import NO_CUTS, some_cut
from tests.test_differences import NO_SPOTS
from tests.test_mixings import NO_MIXINGS, ROW

MUCH = (('in', 'a', 3), 3)
NO_QUESTIONS = ODD + (
    (('in', 'a', 3), 0), (('in', 'a', 3), 6), (('in', 'a', 3), True), (('in', 'a', 3), -1), (('in', 'a', 3), None),
    (('in', 'a', 3), '3'), (('in', 'a', 3),), (('in', 'a', 3), 3, 0), [('in', 'a', 3), 3], (['in', 'a', 3], 3),
    (('in', 'b', 1), 1), (('in', 'b', 1), 0), (('in', 'a', 0), 1), (('by', 5), 1), (('by', 1), 5), (('by', True), 1),
    (3, ('in', 'a', 3)), ('in', 'a', 3), (MUCH, True), (('in', 'c', 3), 1),
)
NO_ANSWERS = tuple(value for value in ODD if value != ()) + (
    MUCH, (MUCH,), (MUCH, True), [(MUCH, True)], ([MUCH, True],), ((MUCH, 1),), ((MUCH, None),), ((MUCH, True, 0),),
    ((MUCH, True), (MUCH, True)), ((MUCH, True), (MUCH, False)), ((MUCH, 'True'),), (((('in', 'a', 3), 0), False),),
    (((('by', 1), 5), False),), ((MUCH, True), None), ((True, MUCH),), ((MUCH, 0),), (((('in', 'b', 1), 1), True),),
    tuple(((('by', 0), number), False) for number in range(1, 7)) + tuple((((('by', 1), its), True)) for its in (1, 2, 3)),
)


def answers_of(yard, row, question):
    """What a mixing answers."""
    return spot_dye(yard, row, question[0]) >= question[1]


def some_question(dice, yard, rows):
    """Some question of a yard that has grain, mostly one that not all of these rows answer alike."""
    spots = [spot for spot in all_spots(yard) if yard.amount(spot) > 0]
    open_ones = [spot for spot in spots if len({spot_dye(yard, row, spot) for row in rows}) > 1]
    spot = dice.choice(open_ones if open_ones and dice.random() < 0.8 else spots)
    number = spot_dye(yard, dice.choice(rows), spot) + dice.choice((0, 0, 1))
    return (spot, min(max(1, number), yard.amount(spot)))


def told_open(yard, rows, spot, question):
    """Whether two of these mixings have as much dye in the spot and answer unlike."""
    said = [{spot_dye(yard, row, spot) for row in rows if answers_of(yard, row, question) == word} for word in (0, 1)]
    return bool(said[0] & said[1])


class Answers(unittest.TestCase):
    def test_the_example(self):
        gives(self, True, answer, YARD, (0, 4, 1, 0, 3), MUCH)
        gives(self, None, known, YARD, MUCH)
        gives(self, False, known, TWO, MUCH)

    def test_small_yards(self):
        dice, met = random.Random(160), []
        for yard in some_yards(160, 250):
            rows = fitting_ones(yard)
            for question in [some_question(dice, yard, rows) for _ in range(5)] if rows and len(yard) else []:
                said = {answers_of(yard, row, question) for row in rows}
                gives(self, None if len(said) == 2 else said.pop(), known, yard=yard, question=question)
                met.append(known(yard, question))
        for word in (None, True, False):
            self.assertGreater(met.count(word), 20, word)

    def test_of_any_mixing(self):
        dice = random.Random(161)
        for yard in some_yards(161, 80):
            rows = all_mixings(yard)
            for row in dice.sample(rows, min(4, len(rows))) if len(yard) else []:
                question = some_question(dice, yard, rows)
                gives(self, answers_of(yard, row, question), answer, yard=yard, row=row, question=question)
        gives(self, False, answer, NONE, (0, 4, 0, 0, 2), (('by', 3), 1))
        gives(self, False, answer, YARD, ROW, MUCH)
        gives(self, True, answer, YARD, ROW, (('in', 'a', 3), 2))

    def test_wrong_arguments(self):
        for value in NO_MIXINGS:
            raises(self, NotMixing, value, answer, YARD, value, MUCH)
            raises(self, NotMixing, value, answer, YARD, value, None)
        for value in NO_QUESTIONS:
            raises(self, BadQuestion, value, answer, YARD, ROW, value)
            raises(self, BadQuestion, value, answer, NONE, ROW, value)
            raises(self, BadQuestion, value, known, YARD, value)
            raises(self, NoMixing, NONE, known, NONE, value)
        raises(self, NoMixing, NONE, known, NONE, MUCH)
        for question in ((('by', 0), 1), (('in', 'a', 0), 1), (('in', 'a', 1), 1)):
            raises(self, BadQuestion, question, known, EMPTY, question)
            raises(self, BadQuestion, question, answer, EMPTY, (), question)
        gives(self, True, known, YARD, (('by', 1), 4))
        gives(self, False, known, YARD, (('by', 0), 6))
        gives(self, False, known, YARD, (('by', 0), 1))


class LeftBy(unittest.TestCase):
    def test_the_example(self):
        gives(self, 'cut', lambda: left_by(YARD, ((MUCH, True), ((('by', 3), 2), True)))[0])

    def some_answers(self, dice, yard, rows, many):
        """So many answers at the most, mostly those of one of these mixings."""
        row = dice.choice(rows)
        found = {}
        for _ in range(many):
            question = some_question(dice, yard, rows)
            found[question] = answers_of(yard, row, question) != (dice.random() < 0.1)
        return tuple(found.items())

    def test_small_yards(self):
        dice, met = random.Random(162), []
        for yard in some_yards(162, 300):
            rows, mixings = fitting_ones(yard), all_mixings(yard)
            for many in (1, 2, 4, 8) if len(yard) else ():
                answers = self.some_answers(dice, yard, mixings, many)
                left = [row for row in rows if all(answers_of(yard, row, its) == word for its, word in answers)]
                told = left_by(yard=yard, answers=answers)
                met.append((told[0], len(yard.samples) + len(answers) > 6))
                self.assertEqual(told[0] == 'mixing', bool(left))
                self.assertTrue(told[1] in left or told[0] != 'mixing')
                gives(self, True, shows_left_by, yard=yard, answers=answers, value=told)
                if len(yard.samples) + len(answers) <= 6:
                    self.with_samples(dice, yard, answers, told)
                for row in rows[:2] + left[:1]:
                    gives(self, row in left, shows_left_by, yard, answers, ('mixing', row))
        self.assertGreater(min(met.count((word, more)) for word in ('mixing', 'cut', 'spot') for more in (True, False)), 10)

    def with_samples(self, dice, yard, answers, told):
        """What was told is right of the yard with a sample for each answer, and so are the same cuts and spots."""
        its = yard
        for (spot, number), word in answers:
            sample = ('least', number, spot) if word else ('most', number - 1, spot)
            its = its if sample in its.samples else its.with_sample(sample)
        self.assertTrue(shows_fitting(its, told))
        for value in (('cut', some_cut(dice, yard)), ('cut', ()), ('spot', dice.choice(all_spots(yard)))):
            gives(self, shows_fitting(its, value), shows_left_by, yard, answers, value)

    def test_more_answers_than_samples_may_be(self):
        questions = tuple(((('in', 'a', moment), number), True) for moment in (3, 4) for number in (1, 2, 3, 4))
        full = YARD
        for number in range(6):
            full = full.with_sample(('most', number + 4, ('by', 2)))
        for yard in (YARD, full):
            told = left_by(yard, questions)
            gives(self, ('mixing', (0, 4, 0)), lambda: (told[0], told[1][:3]))
            gives(self, True, shows_left_by, yard, questions, told)
            told = left_by(yard, questions[:7] + (((('by', 2), 1), True),))
            gives(self, 'cut', lambda: told[0])
            told = left_by(yard, questions[:3] + (((('in', 'a', 3), 4), False),))
            gives(self, 'mixing', lambda: told[0])
            gives(self, 3, dye, yard, told[1], ('in', 'a', 3))

    def test_samples_that_the_yard_has_already(self):
        yard = YARD.with_sample(('least', 2, ('by', 2))).with_sample(('most', 0, ('by', 3)))
        answers = (((('by', 2), 2), True), ((('by', 3), 1), False))
        gives(self, 'mixing', lambda: left_by(yard, answers)[0])
        gives(self, ('spot', ('by', 3)), left_by, yard, (((('by', 3), 1), True),))

    def test_none_of_a_spot_and_more_than_it_has(self):
        gives(self, ('spot', ('by', 1)), left_by, YARD, (((('by', 1), 4), False),))
        gives(self, ('spot', ('by', 0)), left_by, YARD, (((('by', 0), 6), True),))
        gives(self, ('spot', ('by', 2)), left_by, YARD, (((('by', 2), 2), False), ((('by', 2), 3), True)))
        gives(self, 'mixing', lambda: left_by(YARD, (((('by', 2), 2), True), ((('by', 2), 3), False)))[0])
        told = left_by(YARD, (((('by', 2), 1), False),))
        gives(self, 0, lambda: told[1][2])

    def test_no_mixing_and_no_steps(self):
        told = left_by(NONE, ())
        gives(self, True, shows_fitting, NONE, told)
        gives(self, True, shows_left_by, NONE, (), told)
        gives(self, ('mixing', ()), left_by, EMPTY, ())
        gives(self, True, shows_left_by, EMPTY, (), ('mixing', ()))

    def test_shows_nothing_else(self):
        answers = ((MUCH, False),)
        gives(self, True, shows_left_by, YARD, answers, ('mixing', ROW))
        for value in ODD + (
            ('mixing', (0, 4, 1, 0, 3)), ['mixing', ROW], ('mixing', list(ROW)), ('mixing', ROW, 0), ('cut', ()),
            ('cut', ROW), ('spot', ('by', 1)), ('Mixing', ROW), ('mixing',),
        ) + tuple(('mixing', value) for value in NO_MIXINGS):
            gives(self, False, shows_left_by, YARD, answers, value)
        answers = ((MUCH, True), ((('by', 3), 2), True))
        gives(self, True, shows_left_by, YARD, answers, left_by(YARD, answers))
        for value in NO_CUTS:
            gives(self, False, shows_left_by, YARD, answers, ('cut', value))
        for value in NO_SPOTS + all_spots(YARD):
            gives(self, False, shows_left_by, YARD, answers, ('spot', value))

    def test_wrong_arguments(self):
        for yard in (YARD, NONE):
            for value in NO_ANSWERS + tuple(((value, True),) for value in NO_QUESTIONS):
                raises(self, BadAnswers, value, left_by, yard, value)
                raises(self, BadAnswers, value, shows_left_by, yard, value, None)
        eight = tuple(((('by', 0), number), False) for number in range(1, 7)) + (
            ((('by', 1), 1), True), ((('by', 1), 2), True),
        )
        gives(self, 'mixing', lambda: left_by(YARD, eight)[0])
        nine = eight + (((('by', 1), 3), True),)
        raises(self, BadAnswers, nine, left_by, YARD, nine)


class Tells(unittest.TestCase):
    def test_the_example(self):
        gives(self, (('by', 2), ('in', 'a', 3), ('in', 'b', 3), ('in', 'a', 4)), tellers, YARD, MUCH)
        gives(self, 'open', lambda: tells(YARD, ('by', 3), MUCH)[0])

    def test_small_yards(self):
        dice, met = random.Random(163), []
        for yard in some_yards(163, 250):
            rows = fitting_ones(yard)
            for question in [some_question(dice, yard, rows) for _ in range(3)] if rows and len(yard) else []:
                spots = [spot for spot in all_spots(yard) if not told_open(yard, rows, spot, question)]
                gives(self, tuple(spots), tellers, yard=yard, question=question)
                for spot in all_spots(yard)[::4]:
                    told = tells(yard=yard, spot=spot, question=question)
                    gives(self, True, shows_tells, yard=yard, spot=spot, question=question, value=told)
                    gives(self, spot in spots, shows_tells, yard, spot, question, ('tells',))
                    if spot in spots:
                        gives(self, ('tells',), tells, yard, spot, question)
                        continue
                    self.assertEqual((told[0], len(told)), ('open', 3))
                    self.assertTrue(told[1] in rows and told[2] in rows)
                    self.assertEqual(spot_dye(yard, told[1], spot), spot_dye(yard, told[2], spot))
                    self.assertTrue(answers_of(yard, told[1], question))
                    self.assertFalse(answers_of(yard, told[2], question))
                met.append((len(spots) == len(all_spots(yard)), len(spots)))
        self.assertGreater(len([pair for pair in met if not pair[0]]), 100)

    def test_shows_any_right_one(self):
        dice, met = random.Random(164), []
        for yard in some_yards(164, 200):
            rows = fitting_ones(yard)
            for _ in range(8 if rows and len(yard) else 0):
                question, spot = some_question(dice, yard, rows), dice.choice(all_spots(yard))
                one, other = dice.choice(rows), dice.choice(rows)
                right = spot_dye(yard, one, spot) == spot_dye(yard, other, spot)
                right = right and answers_of(yard, one, question) and not answers_of(yard, other, question)
                gives(self, right, shows_tells, yard, spot, question, ('open', one, other))
                met.append(right)
        self.assertGreater(met.count(True), 20)

    def test_the_largest_yard(self):
        dice = random.Random(165)
        for yard in (LARGE, LARGE.bare()):
            spread = [(spot, low, high) for spot, (low, high) in zip(all_spots(yard), ranges(yard)) if low < high]
            for spot, low, high in spread[::9]:
                question = (spot, dice.randint(low + 1, high))
                found = tellers(yard, question)
                self.assertIn(spot, found)
                for its in all_spots(yard)[::7]:
                    told = tells(yard, its, question)
                    self.assertEqual(told == ('tells',), its in found)
                    gives(self, True, shows_tells, yard, its, question, told)

    def test_a_spot_tells_of_itself_and_of_what_is_known(self):
        for number in range(1, 6):
            gives(self, ('tells',), tells, YARD, ('by', 2), (('by', 2), number))
        gives(self, all_spots(YARD), tellers, YARD, (('by', 1), 4))
        gives(self, all_spots(YARD), tellers, YARD, (('by', 0), 6))
        gives(self, 'open', lambda: tells(YARD, ('by', 0), MUCH)[0])

    def test_nothing_else(self):
        _, row, other = tells(YARD, ('by', 3), MUCH)
        gives(self, True, shows_tells, YARD, ('by', 3), MUCH, ('open', row, other))
        for value in ODD + (
            ('open', other, row), ('open', row, row), ('open', other, other), ('open', row), ('open', row, other, 0),
            ['open', row, other], ('open', list(row), other), ('open', row, list(other)), ('tells',), 'tells', ['tells'],
            ('tells', row, other), ('open',), ('tells', ()), (('open',), row, other),
        ) + tuple((value, row, other) for value in ODD):
            gives(self, False, shows_tells, YARD, ('by', 3), MUCH, value)
        for value in NO_MIXINGS:
            gives(self, False, shows_tells, YARD, ('by', 3), MUCH, ('open', row, value))
            gives(self, False, shows_tells, YARD, ('by', 3), MUCH, ('open', value, other))
        for value in ODD + ('tells', ['tells'], ('tells', ()), ('tells', 'tells'), ('Tells',), (['tells'],)):
            gives(self, False, shows_tells, YARD, ('by', 2), MUCH, value)
        gives(self, True, shows_tells, YARD, ('by', 2), MUCH, ('tells',))

    def test_wrong_arguments(self):
        for call, more in ((tells, ()), (shows_tells, (None,)), (shows_tells, (('tells',),))):
            for value in NO_SPOTS:
                raises(self, BadSpot, value, call, YARD, value, MUCH, *more)
                raises(self, BadSpot, value, call, YARD, value, None, *more)
                raises(self, NoMixing, NONE, call, NONE, value, None, *more)
            for value in NO_QUESTIONS:
                raises(self, BadQuestion, value, call, YARD, ('by', 3), value, *more)
            raises(self, NoMixing, NONE, call, NONE, ('by', 3), MUCH, *more)
            raises(self, BadSpot, ('by', 0), call, EMPTY, ('by', 0), MUCH, *more)
        for value in NO_QUESTIONS:
            raises(self, BadQuestion, value, tellers, YARD, value)
            raises(self, NoMixing, NONE, tellers, NONE, value)
        raises(self, BadQuestion, MUCH, tellers, EMPTY, MUCH)
        raises(self, BadQuestion, MUCH, tellers, Yard('vessels a\nfill a 2'), MUCH)


if __name__ == '__main__':
    unittest.main()
