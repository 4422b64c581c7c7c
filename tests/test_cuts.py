"""Section 10: cuts."""

import random
import unittest

from dyedpours.cuts import bounds, into, lets, lets_one, out_of, wants, wants_one
from dyedpours.errors import BadCut, BadLot, BadSpot
from dyedpours.moves import all_spots
from dyedpours.yards import Yard
from tests.helpers import (
    BEYOND, EMPTY, NONE, ODD, TWO, YARD, fitting_ones, gives, lot_dye, raises, some_yards, spot_dye,
)

NO_CUTS = tuple(value for value in ODD if value != ()) + (
    ('a', 0), [('a', 0)], (['a', 0],), (('a', True),), (('a', False),), (('a', 5),), (('a', -1),), (('c', 0),),
    (('a', 0), ('a', 0)), (('a', 1), ('a', 0)), (('b', 0), ('a', 0)), (('a', 0, 0),), (('a',),), (('a', '0'),),
    ((('a',), 0),), (('in', 'a', 1),), (('a', 0), None), {('a', 0): 1}, (('a', 0), ['b', 0]),
)
NO_LOTS = tuple(value for value in ODD if value != ()) + (
    (4,), (-1,), (0, 0), (1, 0), [0, 1], (0, True), (False,), ('0',), (0, None), ((0,),), 0, (('by', 3),), {0: 1},
)


def places(yard, spot):
    """The place that a spot leaves, and the one that it reaches."""
    if spot[0] == 'in':
        return (spot[1], spot[2] - 1), (spot[1], spot[2]) if spot[2] < len(yard) else None
    kind, *names, _ = yard.steps[spot[1]]
    gone = names[0] if kind in ('pour', 'draw') else None
    come = None if kind == 'draw' else names[-1]
    return tuple((name, spot[1]) if name else None for name in (gone, come))


def all_let(yard, lot, cut, side):
    """What a cut lets a lot have (side 1) or wants of it (side 0), spot by spot."""
    ends = [yard.ends[number] for number in lot]
    much = 0
    for spot in all_spots(yard):
        leaves, reaches = [place in cut for place in places(yard, spot)]
        if reaches and not leaves or spot in ends and not leaves:
            much += bounds(yard, spot)[side]
        if leaves and not reaches and spot not in ends:
            much -= bounds(yard, spot)[1 - side]
    return much


def one_let(yard, spot, cut, side):
    """What a cut lets a spot have (side 1) or wants of it (side 0)."""
    leaves, reaches = [place in cut for place in places(yard, spot)]
    if leaves == reaches:
        return bounds(yard, spot)[side]
    with_it, against = (out_of(yard, cut), into(yard, cut))[::1 if leaves else -1]
    return (
        sum(bounds(yard, its)[side] for its in against)
        - sum(bounds(yard, its)[1 - side] for its in with_it if its != spot)
    )


def some_cut(dice, yard):
    """Some cut of a yard."""
    all_places = [(vessel, step) for vessel in yard.vessels for step in range(len(yard))]
    return tuple(sorted(dice.sample(all_places, dice.randint(0, len(all_places)))))


def some_lot(dice, yard):
    """Some lot of a yard."""
    return tuple(sorted(dice.sample(range(len(yard.ends)), dice.randint(0, len(yard.ends)))))


class Bounds(unittest.TestCase):
    def test_the_example(self):
        gives(self, (4, 4), bounds, YARD, ('by', 1))
        gives(self, (1, 2), bounds, YARD.with_sample(('least', 1, ('by', 3))), ('by', 3))

    def test_without_samples(self):
        gives(self, ((0, 0), (4, 4), (0, 5), (0, 2), (0, 3)), lambda: tuple(bounds(YARD, ('by', at)) for at in range(5)))
        gives(self, (0, 10), bounds, yard=YARD, spot=('in', 'a', 2))
        gives(self, (0, 0), bounds, YARD, ('in', 'b', 1))

    def test_samples_of_just_this_spot(self):
        yard = Yard(YARD.text + '\nleast 1 in a 3\nleast 3 in a 3\nmost 4 in a 3\nmost 9 in a 3\nis 2 by 2\nmost 1 by 2')
        gives(self, (3, 4), bounds, yard, ('in', 'a', 3))
        gives(self, (0, 5), bounds, yard, ('in', 'a', 4))
        gives(self, (2, 1), bounds, yard, ('by', 2))

    def test_beyond_the_amount(self):
        yard = Yard(YARD.text + '\nleast 9999 by 3\nleast 1 by 0\nmost 3 by 1\nis 4 by 4\nmost 9999 by 2')
        gives(self, (9999, 2), bounds, yard, ('by', 3))
        gives(self, (1, 0), bounds, yard, ('by', 0))
        gives(self, (4, 3), bounds, yard, ('by', 1))
        gives(self, (4, 3), bounds, yard, ('by', 4))
        gives(self, (0, 5), bounds, yard, ('by', 2))

    def test_no_spot(self):
        for value in ODD + (('by', 5), ('in', 'a', 6)):
            raises(self, BadSpot, value, bounds, YARD, value)
        for value in EMPTY.ends:
            raises(self, BadSpot, value, bounds, EMPTY, value)


class Cuts(unittest.TestCase):
    def test_the_example(self):
        gives(self, (('by', 2), ('in', 'b', 2)), into, YARD, BEYOND)
        gives(self, (('by', 3), ('in', 'b', 4)), out_of, YARD, BEYOND[:2])

    def test_into_and_out_of(self):
        dice = random.Random(15)
        for yard in some_yards(15, 80):
            cut = some_cut(dice, yard)
            come, gone = [], []
            for spot in all_spots(yard):
                leaves, reaches = [place in cut for place in places(yard, spot)]
                come += [spot] if reaches and not leaves else []
                gone += [spot] if leaves and not reaches else []
            gives(self, tuple(come), into, yard=yard, cut=cut)
            gives(self, tuple(gone), out_of, yard=yard, cut=cut)

    def test_places_stand_by_names(self):
        yard = Yard('vessels b a\nfill b 1\nfill a 1')
        gives(self, (('by', 0), ('by', 1), ('in', 'a', 1)), into, yard, (('a', 1), ('b', 0)))
        raises(self, BadCut, (('b', 0), ('a', 1)), into, yard, (('b', 0), ('a', 1)))

    def test_no_cut(self):
        for value in NO_CUTS:
            raises(self, BadCut, value, into, YARD, value)
            raises(self, BadCut, value, out_of, YARD, value)
            for call in (lets, wants):
                raises(self, BadCut, value, call, YARD, (0,), value)
            for call in (lets_one, wants_one):
                raises(self, BadCut, value, call, YARD, ('by', 2), value)
        raises(self, BadCut, (('a', 0),), into, EMPTY, (('a', 0),))

    def test_no_lot_and_no_spot_are_told_first(self):
        for call in (lets, wants):
            for value in NO_LOTS:
                raises(self, BadLot, value, call, YARD, value, None)
                raises(self, BadLot, value, call, YARD, value, ())
        for call in (lets_one, wants_one):
            for value in ODD + (('by', 5),):
                raises(self, BadSpot, value, call, YARD, value, None)
                raises(self, BadSpot, value, call, YARD, value, ())
            for value in EMPTY.ends:
                raises(self, BadSpot, value, call, EMPTY, value, ())


class Letting(unittest.TestCase):
    def test_the_example(self):
        gives(self, (5, 5, 0), lambda: (
            lets(YARD, (1, 2), BEYOND), lets(YARD, (1, 2), ()), wants(YARD, (1, 2), BEYOND),
        ))
        gives(self, 5, lets_one, YARD, ('by', 2), BEYOND)
        gives(self, 5, lets_one, YARD, ('by', 3), BEYOND)

    def test_spot_by_spot(self):
        dice = random.Random(16)
        for yard in some_yards(16, 150):
            for _ in range(5):
                cut, lot = some_cut(dice, yard), some_lot(dice, yard)
                gives(self, all_let(yard, lot, cut, 1), lets, yard=yard, lot=lot, cut=cut)
                gives(self, all_let(yard, lot, cut, 0), wants, yard=yard, lot=lot, cut=cut)
                for spot in all_spots(yard)[::3]:
                    gives(self, one_let(yard, spot, cut, 1), lets_one, yard=yard, spot=spot, cut=cut)
                    gives(self, one_let(yard, spot, cut, 0), wants_one, yard=yard, spot=spot, cut=cut)

    def test_no_mixing_goes_beyond(self):
        dice = random.Random(17)
        for yard in some_yards(17, 100):
            cut, lot = some_cut(dice, yard), some_lot(dice, yard)
            for row in fitting_ones(yard)[:20]:
                self.assertLessEqual(wants(yard, lot, cut), lot_dye(yard, row, lot))
                self.assertGreaterEqual(lets(yard, lot, cut), lot_dye(yard, row, lot))
                for spot in all_spots(yard):
                    self.assertLessEqual(wants_one(yard, spot, cut), spot_dye(yard, row, spot))
                    self.assertGreaterEqual(lets_one(yard, spot, cut), spot_dye(yard, row, spot))

    def test_below_nothing_and_beyond_all(self):
        gives(self, 10, lets, YARD, (), (('a', 1),))
        gives(self, -6, wants, YARD, (), (('a', 1),))
        gives(self, -2, lets, NONE, (), BEYOND[:2])
        gives(self, 2, wants, TWO, (2,), ())
        gives(self, 5, lets, YARD, (0,), (('a', 3), ('a', 4), ('b', 0)))
        gives(self, -3, wants, YARD, (0,), (('a', 3), ('a', 4), ('b', 0)))

    def test_without_steps(self):
        for lot in ((), (0,), (1,), (0, 1)):
            gives(self, 0, lets, EMPTY, lot, ())
            gives(self, 0, wants, EMPTY, lot, ())
        raises(self, BadLot, (2,), lets, EMPTY, (2,), ())


if __name__ == '__main__':
    unittest.main()
