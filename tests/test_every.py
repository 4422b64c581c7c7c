"""Section 8: all mixings."""

import unittest

from dyedpours.errors import NoStep, NotMixing, TooMany
from dyedpours.every import every, next_mixing, numbers_of
from dyedpours.mixings import broken, eager, judged, shy
from dyedpours.yards import Yard
from tests.helpers import EMPTY, LARGE, NONE, ODD, TWO, YARD, fitting_ones, gives, raises, some_yards
from tests.test_mixings import NO_MIXINGS

# As many mixings as its last three steps have numbers: 5 times 10 times 6 of them.
THREE_HUNDRED = Yard(
    'vessels a b c\nfill a 9\ndye a 9\nfill b 5\ndye b 5\nfill c 4\ndye c 4\ndraw a 9\ndraw b 5\ndraw c 4'
)


class Every(unittest.TestCase):
    def test_the_example(self):
        gives(self, 25, lambda: len(every(YARD)))
        gives(self, (0, 1, 2, 3, 4), numbers_of, YARD, 2)
        gives(self, (0, 4, 0, 0, 3), next_mixing, YARD, (0, 4, 0, 0, 2))
        gives(self, (0, 4, 4, 1, 0), lambda: every(YARD.with_sample(('is', 4, ('by', 2))))[0])

    def test_small_yards(self):
        for yard in some_yards(9, 200):
            rows = tuple(fitting_ones(yard))
            if len(rows) > 300:
                raises(self, TooMany, 300, every, yard)
            else:
                gives(self, rows, every, yard)
                for step in range(len(yard)):
                    gives(self, tuple(sorted({row[step] for row in rows})), numbers_of, yard, step)

    def test_no_mixing_and_no_step(self):
        gives(self, (), every, NONE)
        gives(self, (), numbers_of, NONE, 0)
        gives(self, (), every, YARD.with_sample(('least', 3, ('by', 3))))
        gives(self, ((),), every, EMPTY)

    def test_just_three_hundred(self):
        self.assertEqual(len(every(yard=THREE_HUNDRED)), 300)
        gives(self, tuple(range(6)), numbers_of, yard=THREE_HUNDRED, step=7)
        raises(self, NoStep, 9, numbers_of, THREE_HUNDRED, 9)

    def test_one_more_than_three_hundred(self):
        # 43 times 7 of them.
        yard = Yard('vessels a b\nfill a 42\ndye a 42\nfill b 6\ndye b 6\ndraw a 42\ndraw b 6')
        raises(self, TooMany, 300, every, yard)
        raises(self, TooMany, 300, numbers_of, yard, 0)
        raises(self, NoStep, 6, numbers_of, yard, 6)
        self.assertEqual(len(every(yard.with_sample(('least', 1, ('by', 5))))), 43 * 6)

    def test_no_step(self):
        for value in ODD + (5,):
            raises(self, NoStep, value, numbers_of, YARD, value)
        raises(self, NoStep, 0, numbers_of, EMPTY, 0)


class Next(unittest.TestCase):
    def test_small_yards(self):
        for yard in some_yards(10, 150):
            rows = fitting_ones(yard)
            for at, row in list(enumerate(rows))[:20] + list(enumerate(rows))[-5:]:
                gives(self, rows[at + 1] if at + 1 < len(rows) else None, next_mixing, yard=yard, row=row)

    def test_the_last_one(self):
        gives(self, None, next_mixing, YARD, eager(YARD))
        gives(self, None, next_mixing, EMPTY, ())

    def test_wrong_rows(self):
        for value in NO_MIXINGS:
            raises(self, NotMixing, value, next_mixing, YARD, value)
        raises(self, NotMixing, (0, 4, 1, 1, 1), next_mixing, TWO, (0, 4, 1, 1, 1))
        raises(self, NotMixing, (0, 4, 2, 2, 0), next_mixing, NONE, (0, 4, 2, 2, 0))

    def test_large_yards(self):
        raises(self, TooMany, 300, every, LARGE)
        raises(self, TooMany, 300, every, LARGE.bare())
        row = shy(LARGE.bare())
        for _ in range(20):
            after = next_mixing(LARGE.bare(), row)
            self.assertLess(row, after)
            gives(self, ('mixing',), judged, LARGE, after)
            gives(self, (), broken, LARGE.bare(), after)
            row = after


if __name__ == '__main__':
    unittest.main()
