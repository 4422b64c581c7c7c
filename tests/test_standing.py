"""Section 13: which standings can be."""

import random
import unittest

from dyedpours.errors import BadDyes, BadMoment, TooMany
from dyedpours.mixings import eager
from dyedpours.standing import can_stand, shows_can_stand, standings
from dyedpours.tables import holders, most_at
from dyedpours.yards import Yard, yard_of
from tests.helpers import EMPTY, LARGE, NONE, ODD, TWO, YARD, all_mixings, gives, lots_of, raises, some_yards
from tests.test_every import THREE_HUNDRED
from tests.test_tables import NO_MOMENTS, dyes_that_stand, dyes_then

NO_DYES = ODD + (
    (1,), (1, 3, 0), [1, 3], (True, 3), (1, None), ('1', 3), ((1,), 3), ((1, 3),), {0: 1, 1: 3}, (1, 3.0),
)


def dyed(yard, moment):
    """How much was dyed ahead of a moment."""
    return sum(step[-1] for step in yard.steps[:moment] if step[0] == 'dye')


def is_right(yard, moment, dyes, told):
    """Whether this is right of these dyes, each mixing and each lot gone through."""
    word, shown = told
    ahead = yard_of(yard.vessels, yard.steps[:moment], ())
    if word == 'mixing':
        return shown in all_mixings(ahead) and dyes_then(yard, shown, moment) == dyes
    if word == 'all':
        return shown == dyed(yard, moment) != sum(dyes)
    over = [lot for lot in lots_of(len(dyes)) if sum(dyes[at] for at in lot) > most_at(yard, moment, lot)]
    return word == 'lot' and shown in over and sum(dyes) == dyed(yard, moment)


def some_dyes(dice, yard, moment):
    """Some dyes, nearly such as can stand."""
    dyes = list(dice.choice(dyes_that_stand(yard, moment)))
    for _ in range(dice.choice((0, 1, 1, 2))):
        one, other = dice.randrange(len(dyes)), dice.randrange(len(dyes))
        dyes[one] += 1
        dyes[other] -= dice.choice((1, 1, 1, 0, 2))
    return tuple(dyes)


class CanStand(unittest.TestCase):
    def test_the_example(self):
        gives(self, ('mixing', (0, 4, 3)), can_stand, YARD, 3, (1, 3))
        gives(self, ('all', 4), can_stand, YARD, 3, (1, 2))
        gives(self, ('lot', (1,)), can_stand, YARD, 4, (0, 4, 0))

    def test_small_yards(self):
        dice, words = random.Random(45), []
        for yard in some_yards(45, 150):
            for moment in range(len(yard) + 1):
                known = dyes_that_stand(yard, moment)
                for _ in range(3):
                    dyes = some_dyes(dice, yard, moment)
                    told = can_stand(yard=yard, moment=moment, dyes=dyes)
                    words.append(told[0])
                    self.assertEqual(told[0] == 'mixing', dyes in known, (yard.text, moment, dyes))
                    self.assertEqual(told[0] == 'all', sum(dyes) != dyed(yard, moment))
                    self.assertTrue(is_right(yard, moment, dyes, told), (yard.text, moment, dyes, told))
                    gives(self, True, shows_can_stand, yard=yard, moment=moment, dyes=dyes, value=told)
        self.assertGreater(min(words.count(word) for word in ('mixing', 'all', 'lot')), 50)

    def test_below_and_beyond(self):
        for dyes, word in (
            ((-1, 5), 'lot'), ((5, -1), 'lot'), ((-4, 8), 'lot'), ((10 ** 9, 4 - 10 ** 9), 'lot'), ((0, 0), 'all'),
            ((-2, -2), 'all'), ((10 ** 9, 0), 'all'), ((4, 0), 'mixing'), ((0, 4), 'mixing'),
        ):
            told = can_stand(YARD, 3, dyes)
            self.assertEqual(told[0], word)
            gives(self, True, shows_can_stand, YARD, 3, dyes, told)

    def test_the_first_moment(self):
        for yard in (YARD, EMPTY):
            gives(self, ('mixing', ()), can_stand, yard, 0, (0, 0))
            gives(self, True, shows_can_stand, yard, 0, (0, 0), ('mixing', ()))
            gives(self, ('all', 0), can_stand, yard, 0, (1, 0))
            gives(self, True, shows_can_stand, yard, 0, (1, 0), ('all', 0))
            gives(self, ('lot', (1,)), can_stand, yard, 0, (-1, 1))
            gives(self, False, shows_can_stand, yard, 0, (-1, 1), ('all', 0))
            gives(self, False, shows_can_stand, yard, 0, (-1, 1), ('mixing', ()))
            gives(self, False, shows_can_stand, yard, 0, (-1, 1), ('lot', (0,)))

    def test_large_yards(self):
        whole = len(holders(LARGE, 14))
        for dyes in ((22,) * 9, (198,) + (0,) * 8, (50, 20, 30, 20, 10, 20, 20, 10, 18), (0,) * 8 + (198,)):
            self.assertEqual((len(dyes), sum(dyes)), (whole, 198))
            told = can_stand(LARGE, 14, dyes)
            gives(self, True, shows_can_stand, LARGE, 14, dyes, told)
        dyes = dyes_then(LARGE, eager(LARGE), 11)
        gives(self, dyes, lambda: dyes_then(LARGE, can_stand(LARGE, 11, dyes)[1], 11))

    def test_samples_are_left_aside(self):
        for yard in (TWO, NONE):
            for moment, dyes in ((3, (1, 3)), (3, (1, 2)), (4, (0, 4, 0)), (5, (0, 0, 2, 2)), (0, (0, 0))):
                gives(self, can_stand(YARD, moment, dyes), can_stand, yard, moment, dyes)
                gives(self, True, shows_can_stand, yard, moment, dyes, can_stand(YARD, moment, dyes))
            gives(self, standings(YARD, 5), standings, yard, 5)

    def test_wrong_arguments(self):
        for call, more in ((can_stand, ()), (shows_can_stand, (None,)), (shows_can_stand, (('all', 4),))):
            for value in NO_DYES:
                raises(self, BadDyes, value, call, YARD, 3, value, *more)
                raises(self, BadMoment, 6, call, YARD, 6, value, *more)
            for value in NO_MOMENTS:
                raises(self, BadMoment, value, call, YARD, value, (1, 3), *more)
            raises(self, BadDyes, (1, 3), call, YARD, 4, (1, 3), *more)
            raises(self, BadDyes, (), call, EMPTY, 0, (), *more)


class Shows(unittest.TestCase):
    def test_any_right_one(self):
        dice = random.Random(46)
        for yard in some_yards(46, 60):
            for moment in range(len(yard) + 1):
                dyes = some_dyes(dice, yard, moment)
                ahead = yard_of(yard.vessels, yard.steps[:moment], ())
                for row in all_mixings(ahead)[:6]:
                    right = is_right(yard, moment, dyes, ('mixing', row))
                    gives(self, right, shows_can_stand, yard, moment, dyes, ('mixing', row))
                for number in (dyed(yard, moment), sum(dyes), 0):
                    right = is_right(yard, moment, dyes, ('all', number))
                    gives(self, right, shows_can_stand, yard, moment, dyes, ('all', number))
                for lot in lots_of(len(dyes))[:12]:
                    right = is_right(yard, moment, dyes, ('lot', lot))
                    gives(self, right, shows_can_stand, yard, moment, dyes, ('lot', lot))

    def test_all_comes_ahead_of_lots(self):
        gives(self, True, shows_can_stand, YARD, 4, (0, 4, 0), ('lot', (1,)))
        gives(self, False, shows_can_stand, YARD, 4, (0, 4, 1), ('lot', (1,)))
        gives(self, True, shows_can_stand, YARD, 4, (0, 4, 1), ('all', 4))
        gives(self, False, shows_can_stand, YARD, 4, (0, 4, 1), ('all', 5))
        gives(self, False, shows_can_stand, YARD, 4, (0, 4, 0), ('all', 4))

    def test_nothing_else(self):
        row = (0, 4, 3)
        for value in ODD + (
            ('mixing',), ('mixing', row, 0), ['mixing', row], ('mixing', list(row)), ('mixing', row + (0, 0)), (row,),
            ('mixing', (0, 4, 2)), ('mixing', (False, 4, 3)), ('Mixing', row), (None, row), ('all', 4), ('lot', (1,)),
            ('lot', ()), ('mixing', row + (0,)), ('mixing', row[:2]), ('mixing', None), row,
        ) + tuple(('mixing', value) for value in ODD) + tuple((value, row) for value in ODD):
            gives(self, False, shows_can_stand, YARD, 3, (1, 3), value)
        for value in ODD + (('all', 3), ('all', -4), ('all', '4'), ('all',), ['all', 4], ('all', 4, 4), ('lot', (0,))):
            gives(self, False, shows_can_stand, YARD, 3, (1, 2), value)
        for value in ODD + (
            ('lot', (0,)), ('lot', [1]), ('lot', (True,)), ('lot', (3,)), ('lot', (1, 1)), ('lot', (2, 1)), ('lot', 1),
            ['lot', (1,)], ('lot',), ('lot', (1,), 0), ('lot', (-2,)), ('all', 4),
        ) + tuple(('lot', value) for value in ODD) + tuple((value, (1,)) for value in ODD):
            gives(self, False, shows_can_stand, YARD, 4, (0, 4, 0), value)

    def test_true_is_not_one(self):
        yard = Yard('vessels a\ndye a 1')
        gives(self, True, shows_can_stand, yard, 1, (0,), ('all', 1))
        gives(self, False, shows_can_stand, yard, 1, (0,), ('all', True))
        gives(self, True, shows_can_stand, yard, 1, (1,), ('mixing', (1,)))
        gives(self, False, shows_can_stand, yard, 1, (1,), ('mixing', (True,)))


class Standings(unittest.TestCase):
    def test_the_example(self):
        gives(self, ((0, 4), (1, 3), (2, 2), (3, 1), (4, 0)), standings, YARD, 3)

    def test_small_yards(self):
        for yard in some_yards(47, 150):
            for moment in range(len(yard) + 1):
                known = tuple(dyes_that_stand(yard, moment))
                if len(known) > 300:
                    raises(self, TooMany, 300, standings, yard, moment)
                else:
                    gives(self, known, standings, yard=yard, moment=moment)

    def test_the_first_moment(self):
        gives(self, ((0, 0),), standings, YARD, 0)
        gives(self, ((0, 0),), standings, EMPTY, 0)

    def test_just_three_hundred_and_one_more(self):
        self.assertEqual(len(standings(THREE_HUNDRED, 9)), 300)
        self.assertEqual(len(standings(THREE_HUNDRED, 8)), 60)
        yard = Yard('vessels a b\nfill a 42\ndye a 42\nfill b 6\ndye b 6\ndraw a 42\ndraw b 6')
        raises(self, TooMany, 300, standings, yard, 6)
        self.assertEqual(len(standings(yard, 5)), 43)
        raises(self, TooMany, 300, standings, LARGE, 14)

    def test_unlike_mixings_may_lead_to_the_same(self):
        yard = Yard('vessels a b\nfill a 9\ndye a 9\npour a b 9\npour b a 9')
        gives(self, ((9, 0),), standings, yard, 4)
        self.assertEqual(len(standings(yard, 3)), 10)

    def test_wrong_moments(self):
        for value in NO_MOMENTS:
            raises(self, BadMoment, value, standings, YARD, value)


if __name__ == '__main__':
    unittest.main()
