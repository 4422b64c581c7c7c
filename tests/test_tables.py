"""Section 12: what is reckoned step by step."""

import itertools
import random
import unittest

from dyedpours.errors import BadLot, BadMoment
from dyedpours.lots import greatest
from dyedpours.tables import holders, most_at, table
from dyedpours.yards import Yard, yard_of
from tests.helpers import (
    EMPTY, LARGE, NONE, ODD, TWO, YARD, all_mixings, gives, lots_of, raises, some_yards, spot_dye,
)
from tests.test_cuts import NO_LOTS

NO_MOMENTS = tuple(value for value in ODD if type(value) is not int) + (-1, 6, 10 ** 9, (0,), [0], '0')


def holders_of(yard, moment):
    """The holders at a moment."""
    glasses = [('by', at) for at, step in enumerate(yard.steps[:moment]) if step[0] == 'draw']
    return tuple([('in', vessel, moment) for vessel in yard.vessels] + glasses)


def dyes_then(yard, row, moment):
    """The dye of all holders at a moment by a row of the steps ahead of it at least."""
    return tuple(spot_dye(yard, row, spot) if moment else 0 for spot in holders_of(yard, moment))


def dyes_that_stand(yard, moment):
    """All dyes that the holders can have then, each mixing of the steps ahead gone through."""
    ahead = yard_of(yard.vessels, yard.steps[:moment], ())
    return sorted({dyes_then(yard, row, moment) for row in all_mixings(ahead)})


class Holders(unittest.TestCase):
    def test_small_yards(self):
        for yard in some_yards(40, 80) + [LARGE]:
            for moment in range(len(yard) + 1):
                gives(self, holders_of(yard, moment), holders, yard=yard, moment=moment)
            gives(self, yard.ends, holders, yard, len(yard))

    def test_glasses_come_in_as_they_are_drawn(self):
        both = (('in', 'a', 5), ('in', 'b', 5))
        gives(self, both[:0] + (('in', 'a', 3), ('in', 'b', 3)), holders, YARD, 3)
        gives(self, (('in', 'a', 4), ('in', 'b', 4), ('by', 3)), holders, YARD, 4)
        gives(self, both + (('by', 3), ('by', 4)), holders, NONE, 5)
        gives(self, (('in', 'a', 0), ('in', 'b', 0)), holders, EMPTY, 0)

    def test_wrong_moments(self):
        for call, more in ((holders, ()), (table, ()), (most_at, ((0,),)), (most_at, (None,))):
            for value in NO_MOMENTS:
                raises(self, BadMoment, value, call, YARD, value, *more)
            raises(self, BadMoment, 1, call, EMPTY, 1, *more)


class Tables(unittest.TestCase):
    def test_the_example(self):
        gives(self, (0, 4, 0, 4), table, YARD, 2)
        gives(self, (0, 4, 4, 4), table, YARD, 3)
        gives(self, (0, 4, 3, 2, 4, 4, 4, 4), table, YARD, 4)
        gives(self, 2, most_at, YARD, 5, (0,))

    def test_small_yards(self):
        for yard in some_yards(41, 120):
            for moment in range(len(yard) + 1):
                dyes = dyes_that_stand(yard, moment)
                lots = lots_of(len(holders_of(yard, moment)))
                told = tuple(max(sum(its[at] for at in lot) for its in dyes) for lot in lots)
                gives(self, told, table, yard=yard, moment=moment)
                for lot, most in list(zip(lots, told))[::5]:
                    gives(self, most, most_at, yard=yard, moment=moment, lot=lot)

    def test_beside_the_greatest(self):
        dice = random.Random(42)
        for yard in some_yards(43, 40) + [LARGE]:
            bare = yard.bare()
            told, lots = table(yard, len(yard)), lots_of(len(yard.ends))
            self.assertEqual(len(told), len(lots))
            for at in dice.sample(range(len(lots)), min(20, len(lots))):
                gives(self, greatest(bare, lots[at])[0], lambda: told[at])
                gives(self, told[at], most_at, yard, len(yard), lots[at])

    def test_large_yards(self):
        for moment in range(15):
            told = table(LARGE, moment)
            self.assertEqual(len(told), 2 ** len(holders(LARGE, moment)))
            self.assertEqual(told[0], 0)
            self.assertEqual(told[-1], 0 if moment < 1 else 99 if moment < 3 else 198)

    def test_the_first_moment(self):
        gives(self, (0, 0, 0, 0), table, YARD, 0)
        gives(self, (0, 0, 0, 0), table, EMPTY, 0)
        gives(self, (0, 0), table, Yard('vessels a\ndye a 4'), 0)
        for lot in ((), (0,), (1,), (0, 1)):
            gives(self, 0, most_at, EMPTY, 0, lot)
        raises(self, BadLot, (2,), most_at, YARD, 0, (2,))

    def test_samples_are_left_aside(self):
        for moment in range(6):
            gives(self, table(YARD, moment), table, TWO, moment)
            gives(self, table(YARD, moment), table, NONE, moment)
            gives(self, most_at(YARD, moment, (0,)), most_at, NONE, moment, (0,))

    def test_wrong_lots(self):
        for value in NO_LOTS:
            raises(self, BadLot, value, most_at, YARD, 5, value)
            raises(self, BadMoment, 6, most_at, YARD, 6, value)
        for moment, many in ((0, 2), (3, 2), (4, 3), (5, 4)):
            raises(self, BadLot, (many,), most_at, YARD, moment, (many,))
            gives(self, True, lambda: most_at(YARD, moment, (many - 1,)) >= 0)

    def test_the_sequence_of_lots(self):
        self.assertEqual(lots_of(3), [(), (0,), (1,), (2,), (0, 1), (0, 2), (1, 2), (0, 1, 2)])
        for many in range(5):
            self.assertEqual(lots_of(many), sorted(
                (lot for size in range(many + 1) for lot in itertools.combinations(range(many), size)),
                key=lambda lot: (len(lot), lot),
            ))


if __name__ == '__main__':
    unittest.main()
