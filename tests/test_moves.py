"""Section 5: what moves."""

import unittest

from dyedpours.errors import BadSpot, NoEnd, NoGlass, NoStep, NoVessel
from dyedpours.moves import all_spots, brought, end_of, glass, meets, still, taken
from tests.helpers import EMPTY, ODD, TWO, YARD, gives, raises, some_yards


class Moves(unittest.TestCase):
    def test_the_example(self):
        gives(self, ('a', 'b', None), lambda: (taken(YARD, 2), brought(YARD, 2), taken(YARD, 0)))
        gives(self, ((2, 3), 3, 3), lambda: (meets(YARD, 'b'), glass(YARD, 2), end_of(YARD, ('by', 4))))
        gives(self, (('in', 'a', 3), ('in', 'a', 4)), still, YARD, ('in', 'a', 3))
        gives(self, (('by', 1),), still, YARD, ('by', 1))
        self.assertEqual(len(all_spots(YARD)), 15)

    def test_taken_and_brought(self):
        gives(self, (None, None, 'a', 'b', 'a'), lambda: tuple(taken(YARD, number=step) for step in range(5)))
        gives(self, ('a', 'a', 'b', None, None), lambda: tuple(brought(YARD, number=step) for step in range(5)))
        for call in (taken, brought):
            for value in ODD + (5,):
                raises(self, NoStep, value, call, YARD, value)
            raises(self, NoStep, 0, call, EMPTY, 0)

    def test_meets(self):
        gives(self, (0, 1, 2, 4), meets, YARD, 'a')
        gives(self, (), meets, yard=EMPTY, vessel='a')
        for value in ODD + ('c',):
            raises(self, NoVessel, value, meets, YARD, value)

    def test_all_spots(self):
        moments = tuple(('in', vessel, moment) for moment in range(1, 6) for vessel in 'ab')
        gives(self, tuple(('by', step) for step in range(5)) + moments, all_spots, YARD)
        gives(self, all_spots(YARD), all_spots, TWO)
        gives(self, (), all_spots, EMPTY)

    def test_still(self):
        gives(self, (('in', 'b', 1), ('in', 'b', 2)), still, YARD, ('in', 'b', 1))
        gives(self, (('in', 'b', 1), ('in', 'b', 2)), still, YARD, ('in', 'b', 2))
        gives(self, (('in', 'b', 4), ('in', 'b', 5)), still, YARD, ('in', 'b', 5))
        gives(self, (('in', 'a', 5),), still, YARD, ('in', 'a', 5))
        gives(self, (('in', 'a', 1),), still, YARD, ('in', 'a', 1))
        for value in ODD + (('by', 5),):
            raises(self, BadSpot, value, still, YARD, value)
        raises(self, BadSpot, ('in', 'a', 0), still, EMPTY, ('in', 'a', 0))

    def test_still_of_many(self):
        for yard in some_yards(1, 60):
            for spot in all_spots(yard):
                its = tuple(
                    other for other in all_spots(yard) if spot[0] == other[0] == 'in' and spot[1] == other[1] and not any(
                        min(spot[2], other[2]) <= step < max(spot[2], other[2]) for step in meets(yard, spot[1]))
                )
                gives(self, its if spot[0] == 'in' else (spot,), still, yard, spot)

    def test_glass(self):
        gives(self, 4, glass, YARD, 3)
        raises(self, NoGlass, 0, glass, YARD, 0)
        raises(self, NoGlass, 1, glass, YARD, number=1)
        raises(self, NoGlass, 1, glass, EMPTY, 1)
        for value in ODD + (4,):
            raises(self, NoEnd, value, glass, YARD, value)
        raises(self, NoEnd, 2, glass, EMPTY, 2)

    def test_end_of(self):
        gives(self, (0, 1, 2, 3), lambda: tuple(end_of(YARD, spot) for spot in YARD.ends))
        for spot in all_spots(YARD):
            if spot not in YARD.ends:
                gives(self, None, end_of, YARD, spot)
        for value in ODD + (('by', 5), ('in', 'a', 6)):
            raises(self, BadSpot, value, end_of, YARD, value)
        for value in EMPTY.ends:
            raises(self, BadSpot, value, end_of, EMPTY, spot=value)


if __name__ == '__main__':
    unittest.main()
