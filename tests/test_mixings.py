"""Section 7: mixings."""

import itertools
import unittest

from dyedpours.errors import BadMoment, BadRow, BadSpot, NotMixing
from dyedpours.mixings import broken, dye, eager, judged, shy, stands
from dyedpours.moves import all_spots
from dyedpours.yards import Yard
from tests.helpers import (
    EMPTY, LARGE, NONE, ODD, YARD, all_mixings, gives, kept, raises, some_yards, spot_dye,
)

ROW = (0, 4, 2, 2, 0)
NO_ROWS = ODD + (
    ROW[:4], ROW + (0,), list(ROW), (False, 4, 2, 2, 0), (0, 4, True, 1, 2), ('0', 4, 2, 2, 0), (0, 4, 2, 2, None),
    (0, 4, 2, 2, (0,)), (ROW,),
)
NO_MIXINGS = NO_ROWS + (
    (1, 4, 2, 2, 0), (0, 3, 2, 2, 0), (0, 4, 5, 2, 0), (0, 4, 2, 3, 0), (0, 4, 2, 2, 3), (0, 4, -1, 0, 3),
    (0, 4, 0, 0, 1), (10 ** 9, 4, 2, 2, 0),
)


class Judging(unittest.TestCase):
    def test_the_example(self):
        gives(self, ('mixing',), judged, YARD, ROW)
        gives(self, ('number', 3), judged, YARD, (0, 4, 2, 3, 0))
        gives(self, ('dye', 2), judged, YARD, (0, 4, 5, 0, 0))

    def test_the_first_fault(self):
        for row, answer in (
            ((1, 4, 9, 9, 9), ('number', 0)), ((-1, 4, 0, 0, 0), ('number', 0)), ((7, 4, 0, 0, 0), ('number', 0)),
            ((0, 3, 9, 0, 0), ('number', 1)), ((0, 5, 9, 0, 0), ('number', 1)), ((0, 0, 0, 0, 0), ('number', 1)),
            ((0, 4, 6, 0, 0), ('number', 2)), ((0, 4, -1, 0, 0), ('number', 2)), ((0, 4, 2, -1, 0), ('number', 3)),
            ((0, 4, 1, 2, 0), ('dye', 3)), ((0, 4, 2, 2, 4), ('number', 4)), ((0, 4, 2, 2, 3), ('dye', 4)),
            ((0, 4, 4, 0, 0), ('clean', 3)), ((0, 4, 0, 0, 1), ('clean', 4)), ((0, 4, 0, 0, 2), ('mixing',)),
        ):
            gives(self, answer, judged, yard=YARD, row=row)
            gives(self, answer, judged, NONE, row)

    def test_all_rows_of_small_yards(self):
        for yard in some_yards(5, 40):
            if len(yard) <= 4:
                mixings = set(all_mixings(yard))
                for row in itertools.product(*[range(-1, step[-1] + 2) for step in yard.steps]):
                    self.assertEqual(judged(yard, row) == ('mixing',), row in mixings)

    def test_no_rows(self):
        for value in NO_ROWS:
            raises(self, BadRow, value, judged, YARD, value)
        gives(self, ('mixing',), judged, EMPTY, ())
        raises(self, BadRow, (0,), judged, EMPTY, (0,))


class Dye(unittest.TestCase):
    def test_the_example(self):
        gives(self, 2, dye, YARD, ROW, ('in', 'a', 3))
        gives(self, (2, 0), stands, YARD, ROW, 5)
        gives(self, (0,), broken, YARD.with_sample(('most', 1, ('by', 3))), ROW)

    def test_all_spots(self):
        for yard in some_yards(6, 60):
            for row in all_mixings(yard)[:5]:
                for spot in all_spots(yard):
                    gives(self, spot_dye(yard, row, spot), dye, yard=yard, row=row, spot=spot)
                for moment in range(len(yard) + 1):
                    its = tuple(spot_dye(yard, row, ('in', vessel, moment)) for vessel in yard.vessels)
                    gives(self, its, stands, yard=yard, row=row, moment=moment)

    def test_without_steps(self):
        gives(self, (0, 0), stands, EMPTY, (), 0)
        raises(self, BadSpot, ('in', 'a', 0), dye, EMPTY, (), ('in', 'a', 0))
        gives(self, (), broken, EMPTY, ())

    def test_wrong_arguments(self):
        for value in NO_MIXINGS:
            raises(self, NotMixing, value, dye, YARD, value, None)
            raises(self, NotMixing, value, stands, YARD, value, None)
            raises(self, NotMixing, value, broken, YARD, value)
        for value in ODD + (('by', 5),):
            raises(self, BadSpot, value, dye, YARD, ROW, value)
        for value in ODD + (6,):
            raises(self, BadMoment, value, stands, YARD, ROW, value)


class Broken(unittest.TestCase):
    def test_each_kind_of_sample(self):
        for sample, keeps in (
            (('is', 2, ('by', 3)), True), (('is', 1, ('by', 3)), False), (('is', 3, ('by', 3)), False),
            (('least', 2, ('by', 3)), True), (('least', 3, ('by', 3)), False), (('least', 0, ('by', 3)), True),
            (('most', 2, ('by', 3)), True), (('most', 1, ('by', 3)), False), (('most', 9999, ('by', 3)), True),
        ):
            gives(self, () if keeps else (0,), broken, YARD.with_sample(sample), ROW)

    def test_mixings_that_do_not_fit_are_mixings(self):
        gives(self, (0, 1), broken, NONE, (0, 4, 1, 1, 1))
        gives(self, (1,), broken, yard=NONE, row=ROW)
        gives(self, 2, dye, NONE, ROW, ('by', 2))

    def test_against_the_samples(self):
        for yard in some_yards(7, 80):
            for row in all_mixings(yard)[:8]:
                its = []
                for number, sample in enumerate(yard.samples):
                    if not kept(yard.bare().with_sample(sample), row):
                        its.append(number)
                gives(self, tuple(its), broken, yard, row)


class EagerAndShy(unittest.TestCase):
    def test_the_example(self):
        gives(self, (0, 4, 4, 2, 0), eager, YARD)
        gives(self, (0, 4, 0, 0, 2), shy, YARD)
        gives(self, eager(YARD), eager, NONE)
        gives(self, shy(YARD), shy, NONE)
        gives(self, (), eager, EMPTY)
        gives(self, (), shy, EMPTY)

    def test_they_are_the_last_and_the_first(self):
        for yard in some_yards(8, 80):
            mixings = all_mixings(yard)
            gives(self, max(mixings), eager, yard)
            gives(self, min(mixings), shy, yard)

    def test_large_yards(self):
        gives(self, ('mixing',), judged, LARGE, eager(LARGE))
        gives(self, ('mixing',), judged, LARGE, shy(LARGE))

    def test_nothing_but_dye(self):
        yard = Yard('vessels a b\ndye a 3\npour a b 2\ndraw b 1')
        gives(self, (3, 2, 1), eager, yard)
        gives(self, (3, 2, 1), shy, yard)


if __name__ == '__main__':
    unittest.main()
