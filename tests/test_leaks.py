"""Section 21: what leaks."""

import random
import unittest

from dyedpours.errors import BadLot, NoMixing
from dyedpours.leaks import leak, least_caught, others_of, safe, sure_ends, waste, worst
from dyedpours.lots import greatest, least, shows_greatest, shows_least
from dyedpours.yards import Yard
from tests.helpers import (
    EMPTY, LARGE, NONE, TWO, YARD, fitting_ones, gives, lot_dye, lots_of, raises, some_yards,
)
from tests.test_cuts import NO_LOTS, some_lot


def rest(yard, lot):
    """All other ends."""
    return tuple(number for number in range(len(yard.ends)) if number not in lot)


def clean_in(yard, row, lot):
    """The clean grain of a lot by a mixing."""
    amounts = [yard.amount(yard.ends[number]) if len(yard) else 0 for number in lot]
    return sum(amounts) - lot_dye(yard, row, lot)


class Leaks(unittest.TestCase):
    def test_the_example(self):
        gives(self, (0, 2, 3), others_of, YARD, (1,))
        gives(self, 2, leak, YARD, (0, 1, 3))
        gives(self, 2, least_caught, YARD, (0, 1, 3))
        gives(self, 2, waste, YARD, (2,))
        gives(self, (), safe, YARD)
        gives(self, (2,), sure_ends, TWO)
        gives(self, (2, 3, 2, 3), worst, YARD)

    def test_small_yards(self):
        dice, met = random.Random(140), []
        for yard in some_yards(140, 250):
            rows = fitting_ones(yard)
            for lot in [some_lot(dice, yard) for _ in range(4)] if rows else []:
                gives(self, rest(yard, lot), others_of, yard=yard, lot=lot)
                gives(self, max(lot_dye(yard, row, rest(yard, lot)) for row in rows), leak, yard=yard, lot=lot)
                gives(self, min(lot_dye(yard, row, lot) for row in rows), least_caught, yard=yard, lot=lot)
                gives(self, max(clean_in(yard, row, lot) for row in rows), waste, yard=yard, lot=lot)
                met.append(leak(yard, lot) + least_caught(yard, lot) - max(lot_dye(yard, row, lot) for row in rows))
        self.assertGreater(len(set(met)), 5)

    def test_ends_of_small_yards(self):
        met = []
        for yard in some_yards(141, 250):
            rows = fitting_ones(yard)
            if rows:
                dyes = [[lot_dye(yard, row, (number,)) for row in rows] for number in range(len(yard.ends))]
                gives(self, tuple(max(its) for its in dyes), worst, yard=yard)
                gives(self, tuple(at for at, its in enumerate(dyes) if max(its) == 0), safe, yard=yard)
                gives(self, tuple(at for at, its in enumerate(dyes) if min(its) > 0), sure_ends, yard=yard)
                met.append((len(safe(yard)) > 0, len(sure_ends(yard)) > 0))
        self.assertEqual(len(set(met)), 4)

    def test_samples_count(self):
        gives(self, 4, leak, YARD, ())
        gives(self, 4, leak, TWO, ())
        gives(self, 2, leak, TWO, (2,))
        gives(self, 4, leak, YARD, (2,))
        gives(self, 2, least_caught, TWO, (2,))
        gives(self, 0, waste, TWO, (2,))

    def test_none_and_all(self):
        for yard in (YARD, TWO, LARGE):
            every_end = tuple(range(len(yard.ends)))
            gives(self, every_end, others_of, yard, ())
            gives(self, (), others_of, yard, every_end)
            gives(self, 0, leak, yard, every_end)
            gives(self, sum(step[-1] for step in yard.steps if step[0] == 'dye'), leak, yard, ())
            gives(self, sum(step[-1] for step in yard.steps if step[0] == 'fill'), waste, yard, every_end)
            gives(self, 0, waste, yard, ())
            gives(self, 0, least_caught, yard, ())

    def test_without_steps(self):
        gives(self, (1,), others_of, EMPTY, (0,))
        for lot in ((), (0,), (0, 1)):
            for call in (leak, least_caught, waste):
                gives(self, 0, call, EMPTY, lot)
        gives(self, (0, 1), safe, EMPTY)
        gives(self, (), sure_ends, EMPTY)
        gives(self, (0, 0), worst, EMPTY)
        gives(self, (0,) * 6, worst, Yard('vessels a b c d e f'))

    def test_the_largest_yard(self):
        for lot in lots_of(9)[::37]:
            others = rest(LARGE, lot)
            gives(self, True, shows_greatest, LARGE, others, (leak(LARGE, lot),) + greatest(LARGE, others)[1:])
            gives(self, True, shows_least, LARGE, lot, (least_caught(LARGE, lot),) + least(LARGE, lot)[1:])
            amount = sum(LARGE.amount(LARGE.ends[number]) for number in lot)
            gives(self, amount - least_caught(LARGE, lot), waste, LARGE, lot)
        for number, most in enumerate(worst(LARGE)):
            gives(self, True, shows_greatest, LARGE, (number,), (most,) + greatest(LARGE, (number,))[1:])

    def test_wrong_arguments(self):
        for value in NO_LOTS:
            raises(self, BadLot, value, others_of, YARD, value)
            raises(self, BadLot, value, others_of, NONE, value)
            for call in (leak, least_caught, waste):
                raises(self, BadLot, value, call, YARD, value)
                raises(self, NoMixing, NONE, call, NONE, value)
        for call in (leak, least_caught, waste):
            raises(self, NoMixing, NONE, call, NONE, (0,))
            raises(self, BadLot, (2,), call, EMPTY, (2,))
        for call in (safe, sure_ends, worst):
            raises(self, NoMixing, NONE, call, NONE)
        gives(self, (0, 1, 3), others_of, NONE, (2,))


if __name__ == '__main__':
    unittest.main()
