"""Section 14: weights and heights."""

import random
import unittest

from dyedpours.cuts import bounds
from dyedpours.errors import BadHeights, BadSpot, BadWeights, NoMixing, NotMixing
from dyedpours.heights import (
    borne, greatest_worth, least_worth, shows_greatest_worth, shows_least_worth, slope, worth,
)
from dyedpours.moves import all_spots
from dyedpours.yards import Yard
from tests.helpers import (
    EMPTY, LARGE, NONE, ODD, TWO, YARD, all_mixings, fitting_ones, gives, raises, some_yards, spot_dye,
)
from tests.test_cuts import places
from tests.test_mixings import NO_MIXINGS

ROW = (0, 4, 2, 2, 0)
WEIGHTS = (0, 0, 0, 1, -1)
FLAT = ((0, 0),) * 5
RAISED = ((0, 0), (0, 0), (0, 1), (0, 1), (0, 1))
NO_WEIGHTS = ODD + (
    WEIGHTS[:4], WEIGHTS + (0,), list(WEIGHTS), (False, 0, 0, 1, -1), (0, 0, 0, 1, True), ('0', 0, 0, 1, -1),
    (0, 0, 0, 1, None), ((0,), 0, 0, 1, -1), (WEIGHTS,), (0.0, 0, 0, 1, -1), {0: 0, 1: 0, 2: 0, 3: 1, 4: -1},
)
NO_HEIGHTS = ODD + (
    FLAT[:4], FLAT + ((0, 0),), list(FLAT), ((0, 0),) * 4 + ((0,),), ((0, 0),) * 4 + ((0, 0, 0),), WEIGHTS,
    ((0, 0),) * 4 + ([0, 0],), ((0, 0),) * 4 + ((0, False),), ((True, 0),) + ((0, 0),) * 4, ((0, 0),) * 4 + (None,),
    ((0, 0),) * 4 + ((0, '0'),), ((0,) * 5,) * 2, (FLAT,), ((),) * 5, ((0, 0),) * 4 + (((0, 0),),),
)


def rise_of(yard, weights, heights, spot):
    """The slope of a spot."""
    at = [heights[place[1]][yard.vessels.index(place[0])] if place else 0 for place in places(yard, spot)]
    return (weights[spot[1]] if spot[0] == 'by' else 0) + at[0] - at[1]


def number_borne(yard, weights, heights):
    """The number that heights bear."""
    rises = [(rise_of(yard, weights, heights, spot), bounds(yard, spot)) for spot in all_spots(yard)]
    return sum(rise * low if rise > 0 else rise * high for rise, (low, high) in rises)


def worth_of(row, weights):
    """The worth of a row."""
    return sum(number * weight for number, weight in zip(row, weights))


def some_weights(dice, yard):
    """Some weights, of either sign, some of them great."""
    most = dice.choice((1, 3, 3, 20, 10 ** 9 - 1))
    return tuple(dice.choice((0, 1, 1)) * dice.randint(-most, most) for _ in yard.steps)


def some_heights(dice, yard):
    """Some heights."""
    return tuple(tuple(dice.randint(-3, 3) for _ in yard.vessels) for _ in yard.steps)


def contrary(weights):
    """The contraries of weights."""
    return tuple(-weight for weight in weights)


class Worth(unittest.TestCase):
    def test_the_example(self):
        gives(self, 2, worth, YARD, ROW, WEIGHTS)
        gives(self, -3, borne, YARD, WEIGHTS, FLAT)
        gives(self, -1, slope, YARD, WEIGHTS, RAISED, ('by', 2))
        gives(self, 2, slope, YARD, WEIGHTS, RAISED, ('by', 3))
        gives(self, -8, borne, YARD, WEIGHTS, RAISED)
        gives(self, (-3, 2), lambda: (least_worth(YARD, WEIGHTS)[0], greatest_worth(YARD, WEIGHTS)[0]))

    def test_small_yards(self):
        dice = random.Random(50)
        for yard in some_yards(50, 100):
            weights, heights = some_weights(dice, yard), some_heights(dice, yard)
            for row in all_mixings(yard)[:5]:
                gives(self, worth_of(row, weights), worth, yard=yard, row=row, weights=weights)
                # What reaches a place leaves it, so all slopes together are the worth.
                much = [rise_of(yard, weights, heights, spot) * spot_dye(yard, row, spot) for spot in all_spots(yard)]
                self.assertEqual(sum(much), worth_of(row, weights))
            for spot in all_spots(yard):
                told = rise_of(yard, weights, heights, spot)
                gives(self, told, slope, yard=yard, weights=weights, heights=heights, spot=spot)
            told = number_borne(yard, weights, heights)
            gives(self, told, borne, yard=yard, weights=weights, heights=heights)
            for row in fitting_ones(yard):
                self.assertLessEqual(told, worth_of(row, weights))

    def test_mixings_that_do_not_fit_have_worth(self):
        gives(self, 0, worth, TWO, (0, 4, 1, 1, 1), WEIGHTS)
        gives(self, 2, worth, NONE, ROW, WEIGHTS)

    def test_bounds_are_told_with_samples(self):
        gives(self, -3, borne, YARD, WEIGHTS, FLAT)
        gives(self, -1, borne, TWO, WEIGHTS, FLAT)
        gives(self, 0, borne, TWO.with_sample(('most', 2, ('by', 4))), WEIGHTS, FLAT)
        torn = YARD.with_sample(('least', 9, ('by', 3)))
        gives(self, 9 - 3, borne, torn, WEIGHTS, FLAT)

    def test_without_steps(self):
        gives(self, 0, worth, EMPTY, (), ())
        gives(self, 0, borne, EMPTY, (), ())
        gives(self, (0, (), ()), least_worth, EMPTY, ())
        gives(self, (0, (), ()), greatest_worth, EMPTY, ())
        gives(self, True, shows_least_worth, EMPTY, (), (0, (), ()))
        gives(self, False, shows_greatest_worth, EMPTY, (), (1, (), ()))
        raises(self, BadSpot, ('in', 'a', 0), slope, EMPTY, (), (), ('in', 'a', 0))

    def test_wrong_arguments(self):
        for value in NO_MIXINGS:
            raises(self, NotMixing, value, worth, YARD, value, None)
        for value in NO_WEIGHTS:
            raises(self, BadWeights, value, worth, YARD, ROW, value)
            raises(self, NotMixing, (), worth, YARD, (), value)
            raises(self, BadWeights, value, slope, YARD, value, None, None)
            raises(self, BadWeights, value, borne, YARD, value, None)
        for value in NO_HEIGHTS:
            raises(self, BadHeights, value, slope, YARD, WEIGHTS, value, None)
            raises(self, BadHeights, value, borne, YARD, WEIGHTS, value)
        for value in ODD + (('by', 5), ('in', 'a', 6)):
            raises(self, BadSpot, value, slope, YARD, WEIGHTS, FLAT, value)


class LeastAndGreatest(unittest.TestCase):
    def test_small_yards(self):
        dice = random.Random(51)
        for yard in some_yards(51, 300):
            rows = fitting_ones(yard)
            for _ in range(3 if rows else 0):
                weights = some_weights(dice, yard)
                worths = [worth_of(row, weights) for row in rows]
                number, row, heights = told = least_worth(yard=yard, weights=weights)
                self.assertEqual((number, worth_of(row, weights)), (min(worths), min(worths)))
                self.assertIn(row, rows)
                self.assertEqual(number_borne(yard, weights, heights), number)
                gives(self, True, shows_least_worth, yard=yard, weights=weights, value=told)
                number, row, heights = told = greatest_worth(yard=yard, weights=weights)
                self.assertEqual((number, worth_of(row, weights)), (max(worths), max(worths)))
                self.assertIn(row, rows)
                self.assertEqual(number_borne(yard, contrary(weights), heights), -number)
                gives(self, True, shows_greatest_worth, yard=yard, weights=weights, value=told)

    def test_large_yards(self):
        dice = random.Random(52)
        for yard in (LARGE, LARGE.bare()):
            for _ in range(30):
                weights = some_weights(dice, yard)
                low, high = least_worth(yard, weights), greatest_worth(yard, weights)
                self.assertLessEqual(low[0], high[0])
                gives(self, True, shows_least_worth, yard, weights, low)
                gives(self, True, shows_greatest_worth, yard, weights, high)

    def test_wrong_arguments(self):
        for call, more in (
            (least_worth, ()), (greatest_worth, ()), (shows_least_worth, (None,)), (shows_greatest_worth, (None,)),
        ):
            for value in NO_WEIGHTS:
                raises(self, BadWeights, value, call, YARD, value, *more)
                raises(self, NoMixing, NONE, call, NONE, value, *more)
            raises(self, NoMixing, NONE, call, NONE, WEIGHTS, *more)


class Shows(unittest.TestCase):
    def test_any_right_one(self):
        dice, right_ones = random.Random(53), 0
        for yard in some_yards(53, 150):
            rows = fitting_ones(yard)
            for _ in range(6 if rows else 0):
                row, heights = dice.choice(rows), some_heights(dice, yard)
                weights = tuple(dice.randint(-1, 1) for _ in yard.steps)
                if dice.random() < 0.5:
                    heights = least_worth(yard, weights)[2]
                number = worth_of(row, weights)
                right = number == number_borne(yard, weights, heights)
                right_ones += right
                gives(self, right, shows_least_worth, yard, weights, (number, row, heights))
                gives(self, right, shows_greatest_worth, yard, contrary(weights), (-number, row, heights))
        self.assertGreater(right_ones, 50)

    def test_nothing_else(self):
        for shows, told in (
            (shows_least_worth, least_worth(YARD, WEIGHTS)), (shows_greatest_worth, greatest_worth(YARD, WEIGHTS)),
        ):
            number, row, heights = told
            gives(self, True, shows, YARD, WEIGHTS, told)
            wrong = [
                list(told), told[:2], told + (0,), (number + 1, row, heights), (number - 1, row, heights), (told,),
                (-number, row, heights), (None, row, heights), (True, row, heights), (str(number), row, heights),
                (row, number, heights), (number, heights, row), (number, list(row), heights), [told],
                (number, row, list(heights)), (number, (0, 4, 1, 1, 1), heights), (number, row, RAISED),
            ]
            wrong += [(number, value, heights) for value in NO_MIXINGS]
            wrong += [(number, row, value) for value in NO_HEIGHTS]
            for value in ODD + tuple(wrong):
                gives(self, False, shows, YARD, WEIGHTS, value)

    def test_no_mixing_that_does_not_fit(self):
        # These weights have the least worth of all mixings where the sample does not let it be.
        row, heights = (0, 4, 1, 0, 3), FLAT
        gives(self, True, shows_least_worth, YARD, WEIGHTS, (-3, row, heights))
        gives(self, False, shows_least_worth, TWO, WEIGHTS, (-3, row, heights))
        gives(self, -3, worth, TWO, row, WEIGHTS)

    def test_true_is_not_one(self):
        yard = Yard('vessels a\ndye a 1')
        gives(self, True, shows_least_worth, yard, (1,), (1, (1,), ((0,),)))
        gives(self, True, shows_least_worth, yard, (1,), (1, (1,), ((-1,),)))
        for value in ((True, (1,), ((0,),)), (1, (True,), ((0,),)), (1, (1,), ((True,),)), (1, (1,), ((False,),))):
            gives(self, False, shows_least_worth, yard, (1,), value)
            gives(self, False, shows_greatest_worth, yard, (1,), value)
        gives(self, False, shows_least_worth, yard, (0,), (False, (1,), ((0,),)))


if __name__ == '__main__':
    unittest.main()
