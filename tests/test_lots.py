"""Section 11: the most and the least."""

import random
import unittest

from dyedpours.cuts import bounds, into, lets, lets_one, out_of, wants, wants_one
from dyedpours.errors import BadLot, BadSpot, NoMixing
from dyedpours.lots import (
    fitting, greatest, highest, least, lowest, ranges, shows_fitting, shows_greatest, shows_highest, shows_least,
    shows_lowest,
)
from dyedpours.mixings import broken, dye
from dyedpours.moves import all_spots
from dyedpours.yards import Yard
from tests.helpers import (
    BEYOND, EMPTY, LARGE, NONE, ODD, TWO, YARD, fitting_ones, gives, lot_dye, raises, some_yards, spot_dye,
)
from tests.test_cuts import NO_CUTS, NO_LOTS, some_cut, some_lot
from tests.test_mixings import NO_MIXINGS, ROW


def is_torn(yard, cut):
    """Whether by the bounds no mixing can go through a cut."""
    come, gone = [[bounds(yard, spot) for spot in spots] for spots in (into(yard, cut), out_of(yard, cut))]
    return any(
        sum(low for low, _ in one) > sum(high for _, high in other) for one, other in ((come, gone), (gone, come))
    )


class Fitting(unittest.TestCase):
    def test_the_example(self):
        gives(self, 'cut', lambda: fitting(NONE)[0])
        gives(self, True, shows_fitting, NONE, ('cut', BEYOND[:2]))
        gives(self, ('spot', ('by', 3)), fitting, YARD.with_sample(('least', 3, ('by', 3))))

    def test_small_yards(self):
        told_of = {'mixing': 0, 'spot': 0, 'cut': 0}
        for yard in some_yards(18, 400):
            rows = fitting_ones(yard)
            word, told = fitting(yard=yard)
            told_of[word] += 1
            gives(self, True, shows_fitting, yard=yard, value=(word, told))
            self.assertEqual(word == 'mixing', len(rows) > 0)
            if word == 'mixing':
                self.assertIn(told, rows)
            elif word == 'spot':
                self.assertGreater(*bounds(yard, told))
            else:
                self.assertTrue(is_torn(yard, told))
        self.assertGreater(min(told_of.values()), 5)

    def test_shows_any_that_is_right(self):
        dice = random.Random(19)
        for yard in some_yards(19, 150):
            rows = fitting_ones(yard)
            for row in rows[:3]:
                gives(self, True, shows_fitting, yard, ('mixing', row))
            for spot in all_spots(yard):
                low, high = bounds(yard, spot)
                gives(self, low > high, shows_fitting, yard, ('spot', spot))
            for _ in range(5):
                cut = some_cut(dice, yard)
                gives(self, is_torn(yard, cut), shows_fitting, yard, ('cut', cut))

    def test_both_ways_through_a_cut(self):
        much = YARD.with_sample(('is', 4, ('in', 'b', 3))).with_sample(('is', 1, ('by', 2)))
        gives(self, True, shows_fitting, much, ('cut', (('b', 2),)))
        little = YARD.with_sample(('is', 1, ('in', 'b', 3))).with_sample(('is', 4, ('by', 2)))
        gives(self, True, shows_fitting, little, ('cut', (('b', 2),)))
        even = YARD.with_sample(('is', 4, ('in', 'b', 3))).with_sample(('is', 4, ('by', 2)))
        gives(self, False, shows_fitting, even, ('cut', (('b', 2),)))

    def test_shows_nothing_else(self):
        for value in ODD + (
            ('mixing',), ('spots', ('by', 3)), ('mixing', ROW, 0), ['mixing', ROW], ('mixing', list(ROW)), ('Mixing', ROW), (None, ROW),
            ('spot', ROW), ('cut', ROW), ('cut', ()), ('spot', ('by', 3)), ('spot', ('by', 5)), ('spot', ['by', 3]),
        ):
            gives(self, False, shows_fitting, YARD, value)
        for value in NO_MIXINGS:
            gives(self, False, shows_fitting, YARD, ('mixing', value))
        for value in NO_CUTS:
            gives(self, False, shows_fitting, NONE, ('cut', value))
        torn = YARD.with_sample(('least', 3, ('by', 3)))
        for word in ODD + ('mixing', 'spot', 'Cut', ('cut',)):
            gives(self, False, shows_fitting, NONE, (word, BEYOND[:2]))
        for word in ODD + ('mixing', 'cut', 'Spot', ('spot',)):
            gives(self, False, shows_fitting, torn, (word, ('by', 3)))
        for value in ODD + (('by', 2), ['by', 3]):
            gives(self, False, shows_fitting, torn, ('spot', value))
        gives(self, True, shows_fitting, torn, ('spot', ('by', 3)))
        gives(self, False, shows_fitting, torn, ('cut', BEYOND))
        gives(self, False, shows_fitting, TWO, ('mixing', (0, 4, 1, 1, 1)))

    def test_without_steps(self):
        gives(self, ('mixing', ()), fitting, EMPTY)
        gives(self, True, shows_fitting, EMPTY, ('mixing', ()))
        gives(self, False, shows_fitting, EMPTY, ('cut', ()))
        gives(self, False, shows_fitting, EMPTY, ('spot', ('in', 'a', 0)))


class Lots(unittest.TestCase):
    def test_the_example(self):
        gives(self, (2, 3, 2, 0, 4), lambda: (
            greatest(YARD, (0,))[0], greatest(YARD, (1,))[0], greatest(TWO, (1,))[0], least(YARD, (2, 3))[0],
            greatest(YARD, (2, 3))[0],
        ))

    def test_small_yards(self):
        dice = random.Random(20)
        for yard in some_yards(20, 300):
            rows = fitting_ones(yard)
            for _ in range(3 if rows else 0):
                lot = some_lot(dice, yard)
                reckoned = [lot_dye(yard, row, lot) for row in rows]
                for call, shows, number, tells in (
                    (greatest, shows_greatest, max(reckoned), lets), (least, shows_least, min(reckoned), wants),
                ):
                    told = call(yard=yard, lot=lot)
                    gives(self, True, shows, yard=yard, lot=lot, value=told)
                    self.assertEqual(told[0], number)
                    self.assertEqual(lot_dye(yard, told[1], lot), number)
                    self.assertIn(told[1], rows)
                    self.assertEqual(tells(yard, lot, told[2]), number)

    def test_large_yards(self):
        for yard in (LARGE, LARGE.bare()):
            for lot in ((), (0,), (8,), (0, 3, 7), (1, 2, 4, 5, 6), tuple(range(9))):
                most, low = greatest(yard, lot), least(yard, lot)
                gives(self, True, shows_greatest, yard, lot, most)
                gives(self, True, shows_least, yard, lot, low)
                self.assertLessEqual(low[0], most[0])
            self.assertEqual(greatest(yard, tuple(range(9)))[0], 198)
            self.assertEqual(least(yard, tuple(range(9)))[0], 198)
            self.assertEqual(greatest(yard, ())[0], 0)

    def test_without_steps(self):
        for lot in ((), (0,), (0, 1)):
            gives(self, (0, (), ()), greatest, EMPTY, lot)
            gives(self, (0, (), ()), least, EMPTY, lot)
            gives(self, True, shows_greatest, EMPTY, lot, (0, (), ()))
            gives(self, True, shows_least, EMPTY, lot, (0, (), ()))
            gives(self, False, shows_least, EMPTY, lot, (1, (), ()))

    def test_wrong_arguments(self):
        for call, more in ((greatest, ()), (least, ()), (shows_greatest, (None,)), (shows_least, (None,))):
            for value in NO_LOTS:
                raises(self, BadLot, value, call, YARD, value, *more)
                raises(self, NoMixing, NONE, call, NONE, value, *more)
            raises(self, NoMixing, NONE, call, NONE, (0,), *more)
            raises(self, BadLot, (2,), call, EMPTY, (2,), *more)

    def test_no_mixing_keeps_the_very_yard(self):
        for call, told in ((greatest, (())), (lowest, ('by', 0))):
            with self.assertRaises(NoMixing) as found:
                call(NONE, told)
            self.assertIs(found.exception.value, NONE)


class Spots(unittest.TestCase):
    def test_small_yards(self):
        for yard in some_yards(21, 250):
            rows = fitting_ones(yard)
            if not rows:
                raises(self, NoMixing, yard, ranges, yard)
                continue
            reckoned = [[spot_dye(yard, row, spot) for row in rows] for spot in all_spots(yard)]
            gives(self, tuple((min(its), max(its)) for its in reckoned), ranges, yard=yard)
            for spot, its in zip(all_spots(yard), reckoned):
                for call, shows, number, tells in (
                    (highest, shows_highest, max(its), lets_one), (lowest, shows_lowest, min(its), wants_one),
                ):
                    told = call(yard=yard, spot=spot)
                    gives(self, True, shows, yard=yard, spot=spot, value=told)
                    self.assertEqual(told[0], number)
                    self.assertEqual(spot_dye(yard, told[1], spot), number)
                    self.assertIn(told[1], rows)
                    self.assertEqual(tells(yard, spot, told[2]), number)

    def test_the_example(self):
        gives(self, ((0, 0), (4, 4), (2, 4), (2, 2), (0, 2)), lambda: ranges(TWO)[:5])
        gives(self, (), ranges, EMPTY)

    def test_large_yards(self):
        for yard in (LARGE, LARGE.bare()):
            told = ranges(yard)
            for at, spot in enumerate(all_spots(yard)):
                low, high = lowest(yard, spot), highest(yard, spot)
                gives(self, (low[0], high[0]), lambda: told[at])
                gives(self, True, shows_lowest, yard, spot, low)
                gives(self, True, shows_highest, yard, spot, high)

    def test_wrong_arguments(self):
        for call, more in ((highest, ()), (lowest, ()), (shows_highest, (None,)), (shows_lowest, (None,))):
            for value in ODD + (('by', 5), ('in', 'a', 6)):
                raises(self, BadSpot, value, call, YARD, value, *more)
                raises(self, NoMixing, NONE, call, NONE, value, *more)
            raises(self, NoMixing, NONE, call, NONE, ('by', 0), *more)
            for value in EMPTY.ends:
                raises(self, BadSpot, value, call, EMPTY, value, *more)
        raises(self, NoMixing, NONE, ranges, NONE)


class Shows(unittest.TestCase):
    def test_any_right_one(self):
        dice = random.Random(22)
        for yard in some_yards(22, 120):
            rows = fitting_ones(yard)
            for _ in range(8 if rows else 0):
                lot, cut, row = some_lot(dice, yard), some_cut(dice, yard), dice.choice(rows)
                number = lot_dye(yard, row, lot)
                right = number == lets(yard, lot, cut)
                gives(self, right, shows_greatest, yard, lot, (number, row, cut))
                right = number == wants(yard, lot, cut)
                gives(self, right, shows_least, yard, lot, (number, row, cut))
                for spot in all_spots(yard)[::4]:
                    number = spot_dye(yard, row, spot)
                    right = number == lets_one(yard, spot, cut)
                    gives(self, right, shows_highest, yard, spot, (number, row, cut))
                    right = number == wants_one(yard, spot, cut)
                    gives(self, right, shows_lowest, yard, spot, (number, row, cut))

    def test_nothing_else(self):
        for shows, asked, told in (
            (shows_greatest, (1,), greatest(YARD, (1,))), (shows_least, (0, 2, 3), least(YARD, (0, 2, 3))),
            (shows_highest, ('by', 4), highest(YARD, ('by', 4))), (shows_lowest, ('by', 1), lowest(YARD, ('by', 1))),
        ):
            number, row, cut = told
            gives(self, True, shows, YARD, asked, told)
            wrong = [
                list(told), told[:2], told + (0,), (number + 1, row, cut), (number - 1, row, cut), (-number, row, cut),
                (None, row, cut), (True, row, cut), (str(number), row, cut), ((number,), row, cut), (row, number, cut),
                (number, list(row), cut), (number, row, list(cut)), (number, cut, row), (told,), [told],
            ]
            wrong += [(number, value, cut) for value in NO_MIXINGS] + [(number, row, value) for value in NO_CUTS]
            for value in ODD + tuple(wrong):
                gives(self, False, shows, YARD, asked, value)

    def test_true_is_not_one(self):
        yard = Yard('vessels a\ndye a 1')
        gives(self, True, shows_greatest, yard, (0,), (1, (1,), ()))
        gives(self, False, shows_greatest, yard, (0,), (True, (1,), ()))
        gives(self, False, shows_greatest, yard, (0,), (1, (True,), ()))
        gives(self, False, shows_greatest, yard, (), (False, (1,), ()))
        gives(self, False, shows_highest, yard, ('by', 0), (True, (1,), ()))
        gives(self, True, shows_highest, yard, ('by', 0), (1, (1,), (('a', 0),)))
        gives(self, False, shows_highest, yard, ('by', 0), (1, (1,), (('a', False),)))
        gives(self, False, shows_lowest, yard, ('by', 0), (1, (1,), (('a', 0),)))

    def test_no_mixing_that_does_not_fit(self):
        row = (0, 4, 4, 1, 0)
        gives(self, (1, (0,)), lambda: (dye(TWO, row, ('by', 3)), broken(TWO, row)))
        told = greatest(TWO, (1,))
        gives(self, True, shows_greatest, TWO, (1,), told)
        gives(self, False, shows_greatest, TWO, (1,), (3, row, told[2]))
        gives(self, False, shows_greatest, TWO, (1,), (3, row, ()))
        gives(self, True, shows_greatest, YARD, (1,), (3, row, ()))


if __name__ == '__main__':
    unittest.main()
