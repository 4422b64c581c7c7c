"""Section 15: differences."""

import random
import unittest

from dyedpours.differences import alike, difference, fixed, shows_alike, together, weights_of
from dyedpours.errors import BadSpot, BadSpots, NoMixing
from dyedpours.heights import worth
from dyedpours.lots import highest, lowest, ranges
from dyedpours.moves import all_spots, still
from dyedpours.yards import Yard
from tests.helpers import (
    EMPTY, LARGE, NONE, ODD, TWO, YARD, all_mixings, fitting_ones, gives, raises, some_yards, spot_dye,
)
from tests.test_mixings import NO_MIXINGS

NO_SPOTS = ODD + (('by', 5), ('in', 'a', 6))
GLASSES = (('by', 3), ('by', 4))


class Weights(unittest.TestCase):
    def test_the_example(self):
        gives(self, (1, 1, -1, 0, 0), weights_of, YARD, ('in', 'a', 4))
        gives(self, (-3, 2), difference, YARD, *GLASSES)
        gives(self, (0, 4), together, YARD, GLASSES)
        gives(self, ('alike',), alike, YARD, ('in', 'a', 3), ('in', 'a', 4))
        gives(self, ((('by', 0), 0), (('by', 1), 4), (('in', 'a', 1), 0), (('in', 'b', 1), 0)), lambda: fixed(YARD)[:4])

    def test_one_spot(self):
        for spot, answer in (
            (('by', 0), (1, 0, 0, 0, 0)), (('by', 4), (0, 0, 0, 0, 1)), (('in', 'a', 1), (1, 0, 0, 0, 0)),
            (('in', 'b', 2), (0, 0, 0, 0, 0)), (('in', 'b', 3), (0, 0, 1, 0, 0)), (('in', 'b', 5), (0, 0, 1, -1, 0)),
            (('in', 'a', 5), (1, 1, -1, 0, -1)),
        ):
            gives(self, answer, weights_of, yard=YARD, spot=spot)
            gives(self, answer, weights_of, NONE, spot)

    def test_the_worth_is_the_dye(self):
        for yard in some_yards(60, 80):
            for row in all_mixings(yard)[::7]:
                for spot in all_spots(yard):
                    gives(self, spot_dye(yard, row, spot), worth, yard, row, weights_of(yard, spot))

    def test_wrong_spots(self):
        for value in NO_SPOTS:
            raises(self, BadSpot, value, weights_of, YARD, value)
        raises(self, BadSpot, ('in', 'a', 0), weights_of, EMPTY, ('in', 'a', 0))


class Differences(unittest.TestCase):
    def test_small_yards(self):
        dice = random.Random(61)
        for yard in some_yards(61, 200):
            rows, spots = fitting_ones(yard), all_spots(yard)
            for _ in range(4 if rows and spots else 0):
                one, other = dice.choice(spots), dice.choice(spots)
                apart = [spot_dye(yard, row, one) - spot_dye(yard, row, other) for row in rows]
                gives(self, (min(apart), max(apart)), difference, yard=yard, one=one, other=other)
                told = alike(yard=yard, one=one, other=other)
                gives(self, True, shows_alike, yard=yard, one=one, other=other, value=told)
                self.assertEqual(told == ('alike',), set(apart) == {0})
                if told[0] == 'unlike':
                    self.assertIn(told[1], rows)
                    self.assertNotEqual(spot_dye(yard, told[1], one), spot_dye(yard, told[1], other))

    def test_together(self):
        dice = random.Random(62)
        for yard in some_yards(62, 200):
            rows, spots = fitting_ones(yard), all_spots(yard)
            for _ in range(3 if rows and spots else 0):
                some = tuple(dice.sample(spots, dice.randint(1, min(12, len(spots)))))
                dyes = [sum(spot_dye(yard, row, spot) for spot in some) for row in rows]
                gives(self, (min(dyes), max(dyes)), together, yard=yard, spots=some)

    def test_what_is_in_several_of_them_counts_several_times(self):
        gives(self, (8, 8), together, YARD, (('by', 1), ('in', 'a', 2)))
        gives(self, (0, 8), together, YARD, (('by', 2), ('in', 'b', 3)))
        gives(self, (4, 4), together, YARD, (('in', 'a', 3), ('in', 'b', 3)))

    def test_one_to_twelve(self):
        spots = all_spots(YARD)
        for many in range(1, 13):
            gives(self, tuple, lambda: type(together(YARD, spots[:many])))
        for value in ((), spots[:13], spots):
            raises(self, BadSpots, value, together, YARD, value)

    def test_fixed(self):
        for yard in some_yards(63, 150):
            rows = fitting_ones(yard)
            if rows:
                dyes = [{spot_dye(yard, row, spot) for row in rows} for spot in all_spots(yard)]
                told = [(spot, its.pop()) for spot, its in zip(all_spots(yard), dyes) if len(its) == 1]
                gives(self, tuple(told), fixed, yard=yard)
            else:
                raises(self, NoMixing, yard, fixed, yard)
        gives(self, (), fixed, EMPTY)
        gives(self, True, lambda: (('by', 3), 2) in fixed(TWO) and ('by', 3) not in dict(fixed(YARD)))

    def test_the_same_spot_and_the_same_grain(self):
        for yard in some_yards(64, 40):
            for spot in all_spots(yard)[::3] if fitting_ones(yard) else ():
                for its in still(yard, spot):
                    gives(self, ('alike',), alike, yard, spot, its)
                    gives(self, (0, 0), difference, yard, spot, its)
                    gives(self, True, shows_alike, yard, spot, its, ('alike',))

    def test_large_yards(self):
        for yard in (LARGE, LARGE.bare()):
            spots = all_spots(yard)
            for one, other in zip(spots[::9], spots[4::9]):
                low, high = difference(yard, one, other)
                self.assertLessEqual(low, high)
                self.assertLessEqual(lowest(yard, one)[0] - highest(yard, other)[0], low)
                gives(self, (-high, -low), difference, yard, other, one)
                gives(self, True, shows_alike, yard, one, other, alike(yard, one, other))
            for at, (low, high) in list(enumerate(ranges(yard)))[::8]:
                gives(self, (low, high), together, yard, (spots[at],))
            gives(self, (198, 198), together, yard, yard.ends)
            gives(self, True, lambda: together(yard, spots[-12:])[1] <= 198 * 2)

    def test_wrong_arguments(self):
        for call, more in ((difference, ()), (alike, ()), (shows_alike, (None,)), (shows_alike, (('alike',),))):
            for value in NO_SPOTS:
                raises(self, BadSpot, value, call, YARD, value, ('by', 0), *more)
                raises(self, BadSpot, value, call, YARD, ('by', 0), value, *more)
                raises(self, BadSpot, (), call, YARD, (), value, *more)
                raises(self, NoMixing, NONE, call, NONE, value, ('by', 0), *more)
                raises(self, NoMixing, NONE, call, NONE, ('by', 0), value, *more)
            raises(self, NoMixing, NONE, call, NONE, *GLASSES, *more)
            raises(self, BadSpot, ('in', 'a', 0), call, EMPTY, ('in', 'a', 0), ('in', 'b', 0), *more)
        raises(self, NoMixing, NONE, fixed, NONE)

    def test_wrong_spots_together(self):
        by = ('by', 3)
        for value in tuple(value for value in ODD if value != (('by', 0),)) + (
            by, [by], (by, by), (by, ('by', 4), by), (list(by),), (by, None), (by, ('by', 5)), (('in', 'a', 0),),
            (('by', True),), (by, ('in', 'c', 1)), (('in', 'a', 6),), {by: 0}, (by, ()), 'by',
        ):
            raises(self, BadSpots, value, together, YARD, value)
            raises(self, NoMixing, NONE, together, NONE, value)
        raises(self, NoMixing, NONE, together, NONE, GLASSES)
        raises(self, BadSpots, EMPTY.ends, together, EMPTY, EMPTY.ends)


class Shows(unittest.TestCase):
    def test_any_right_one(self):
        dice = random.Random(65)
        for yard in some_yards(65, 120):
            rows, spots = fitting_ones(yard), all_spots(yard)
            for _ in range(4 if rows and spots else 0):
                one, other = dice.choice(spots), dice.choice(spots)
                apart = [spot_dye(yard, row, one) != spot_dye(yard, row, other) for row in rows]
                gives(self, not any(apart), shows_alike, yard, one, other, ('alike',))
                for row, unlike in list(zip(rows, apart))[:6]:
                    gives(self, unlike, shows_alike, yard, one, other, ('unlike', row))

    def test_nothing_else(self):
        row = (0, 4, 2, 2, 0)
        gives(self, True, shows_alike, YARD, *GLASSES, ('unlike', row))
        for value in ODD + (
            ('alike',), ('unlike',), ('unlike', row, 0), ['unlike', row], ('unlike', list(row)), ('Unlike', row), row,
            ('alike', row), (None, row), ('unlike', (0, 4, 2, 1, 1)), (('unlike',), row),
        ) + tuple(('unlike', value) for value in NO_MIXINGS) + tuple((value, row) for value in ODD):
            gives(self, False, shows_alike, YARD, *GLASSES, value)
        same_ones = (('in', 'a', 3), ('in', 'a', 4))
        gives(self, True, shows_alike, YARD, *same_ones, ('alike',))
        for value in ODD + (
            'alike', ['alike'], ('alike', ()), ('alike', None), ('Alike',), ('unlike',), ('unlike', row), (('alike',),),
        ) + tuple((value,) for value in ODD):
            gives(self, False, shows_alike, YARD, *same_ones, value)

    def test_no_mixing_that_does_not_fit(self):
        row = (0, 4, 4, 1, 0)
        gives(self, True, shows_alike, YARD, ('by', 2), ('by', 3), ('unlike', row))
        gives(self, False, shows_alike, TWO, ('by', 2), ('by', 3), ('unlike', row))

    def test_alike_by_samples_alone(self):
        known = Yard(YARD.text + '\nis 2 by 3\nis 2 by 2')
        gives(self, ('alike',), alike, known, ('by', 2), ('by', 3))
        gives(self, True, shows_alike, known, ('by', 2), ('by', 3), ('alike',))
        gives(self, False, shows_alike, YARD, ('by', 2), ('by', 3), ('alike',))


if __name__ == '__main__':
    unittest.main()
