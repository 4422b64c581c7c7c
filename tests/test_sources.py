"""Section 19: whose grain is where."""

import random
import unittest

from dyedpours.errors import BadLot, BadMarks, NoEnd, NoSource
from dyedpours.lots import greatest, least
from dyedpours.moves import all_spots
from dyedpours.sources import alone, led, pairs_of, reached, share, shows_led, sources, washed
from dyedpours.yards import Yard, yard_of
from tests.helpers import (
    EMPTY, LARGE, NONE, ODD, TWO, YARD, all_mixings, gives, lot_dye, lots_of, raises, some_yards,
)
from tests.test_cuts import NO_LOTS, places, some_lot

NO_MARKS = tuple(value for value in ODD if value != ()) + (
    (2,), (5,), (-1,), (0, 0), (1, 0), [0, 1], (0, True), (False,), ('0',), (0, None), ((0,),), 0, (0, 2), {0: 1},
    (0, 1, 3), (10 ** 9,),
)
NO_SOURCES = ODD + (-5, 2, 3, 4, 5, 10 ** 9, '0', (0,), [1])
NO_ENDS = ODD + (4, 10 ** 9, '0', (0,), ('by', 3))
WAY = (('by', 1), ('in', 'a', 2), ('by', 2), ('in', 'b', 3), ('by', 3))


def sources_of(yard):
    """The numbers of all sources."""
    return [number for number, step in enumerate(yard.steps) if step[0] in ('fill', 'dye')]


def dyed_alone(yard, marks):
    """The yard in which just these sources are dye."""
    words = {number: 'dye' if number in marks else 'fill' for number in sources_of(yard)}
    return yard_of(yard.vessels, [(words.get(at, step[0]), *step[1:]) for at, step in enumerate(yard.steps)], ())


def most_of_all(yard):
    """For each source the most that each end can have of it, each mixing gone through."""
    found = []
    for number in sources_of(yard):
        its = dyed_alone(yard, (number,))
        found.append(tuple(max(lot_dye(its, row, (end,)) for row in all_mixings(its)) for end in range(len(yard.ends))))
    return tuple(found)


def is_way(yard, number, end, value):
    """Whether spots lead from a source to an end."""
    if value[:1] != (('by', number),) or value[-1] != yard.ends[end]:
        return False
    between = [places(yard, one)[1] == places(yard, other)[0] is not None for one, other in zip(value, value[1:])]
    return all(between) and all(yard.amount(spot) > 0 for spot in value)


class Washed(unittest.TestCase):
    def test_the_example(self):
        gives(self, (('dye', 'a', 6), ('fill', 'a', 4)), lambda: washed(YARD, (0,)).steps[:2])
        gives(self, ((2, 3, 2, 3), (2, 3, 2, 3)), pairs_of, YARD)
        gives(self, (1, 5), share, YARD, (0,), (0, 1))
        gives(self, (0, 1), sources, YARD, 2)
        gives(self, (0, 1, 2, 3), reached, YARD, 1)
        gives(self, WAY, led, YARD, 1, 2)

    def test_small_yards(self):
        for yard in some_yards(100, 120) + [LARGE]:
            known = sources_of(yard)
            for marks in [tuple(known[at] for at in lot) for lot in lots_of(len(known))]:
                its = dyed_alone(yard, marks)
                gives(self, its.text, lambda: washed(yard=yard, marks=marks).text)
                if len(marks) == 1:
                    gives(self, its.text, lambda: alone(yard=yard, number=marks[0]).text)

    def test_without_samples(self):
        gives(self, (), lambda: washed(NONE, (1,)).samples)
        gives(self, True, lambda: washed(NONE, (1,)) == YARD)
        gives(self, True, lambda: alone(TWO, 1) == YARD)
        gives(self, True, lambda: washed(EMPTY, ()) == EMPTY)

    def test_wrong_arguments(self):
        for value in NO_MARKS:
            raises(self, BadMarks, value, washed, YARD, value)
        for value in NO_SOURCES:
            raises(self, NoSource, value, alone, YARD, value)
        raises(self, BadMarks, (0,), washed, EMPTY, (0,))
        raises(self, NoSource, 0, alone, EMPTY, 0)


class Shares(unittest.TestCase):
    def test_small_yards(self):
        dice = random.Random(101)
        for yard in some_yards(101, 150):
            known = sources_of(yard)
            marks = tuple(sorted(dice.sample(known, dice.randint(0, len(known)))))
            its, lot = dyed_alone(yard, marks), some_lot(dice, yard)
            dyes = [lot_dye(its, row, lot) for row in all_mixings(its)]
            gives(self, (min(dyes), max(dyes)), share, yard=yard, marks=marks, lot=lot)

    def test_all_and_none(self):
        for yard in some_yards(102, 40) + [LARGE]:
            every_one, ends = tuple(sources_of(yard)), tuple(range(len(yard.ends)))
            brought = sum(yard.amount(('by', number)) for number in every_one)
            gives(self, (brought, brought), share, yard, every_one, ends)
            gives(self, (0, 0), share, yard, (), ends)
            gives(self, (0, 0), share, yard, every_one, ())

    def test_samples_are_left_aside(self):
        for marks in ((), (0,), (1,), (0, 1)):
            for lot in lots_of(4):
                gives(self, share(YARD, marks, lot), share, NONE, marks, lot)
        gives(self, pairs_of(YARD), pairs_of, NONE)
        gives(self, led(YARD, 1, 2), led, NONE, 1, 2)
        gives(self, (0, 1), sources, NONE, 2)
        gives(self, (0, 1, 2, 3), reached, NONE, 0)

    def test_large_yards(self):
        for marks, lot in (((0,), (0, 1)), ((1, 3), (6, 7, 8)), ((0, 2), (2, 3, 4, 5)), ((3,), (8,))):
            its = dyed_alone(LARGE, marks)
            gives(self, (least(its, lot)[0], greatest(its, lot)[0]), share, LARGE, marks, lot)

    def test_wrong_arguments(self):
        for value in NO_MARKS:
            raises(self, BadMarks, value, share, YARD, value, (0,))
            raises(self, BadMarks, value, share, YARD, value, None)
        for value in NO_LOTS:
            raises(self, BadLot, value, share, YARD, (0,), value)
        raises(self, BadLot, (2,), share, EMPTY, (), (2,))
        gives(self, (0, 0), share, EMPTY, (), (0, 1))


class Pairs(unittest.TestCase):
    def test_small_yards(self):
        for yard in some_yards(103, 120):
            known, most = sources_of(yard), most_of_all(yard)
            gives(self, most, pairs_of, yard=yard)
            for end in range(len(yard.ends)):
                told = tuple(number for number, its in zip(known, most) if its[end] > 0)
                gives(self, told, sources, yard=yard, number=end)
            for number, its in zip(known, most):
                told = tuple(end for end, much in enumerate(its) if much > 0)
                gives(self, told, reached, yard=yard, number=number)

    def test_large_yards(self):
        for number, its in zip(sources_of(LARGE), pairs_of(LARGE)):
            for end, much in enumerate(its):
                gives(self, much, lambda: greatest(dyed_alone(LARGE, (number,)), (end,))[0])

    def test_an_end_of_amount_0_has_none(self):
        yard = Yard('vessels a b\nfill a 3\ndye b 2\npour a b 3')
        gives(self, (), sources, yard, 0)
        gives(self, (0, 1), sources, yard, 1)
        gives(self, (1,), reached, yard, 0)
        gives(self, ((0, 3), (0, 2)), pairs_of, yard)
        gives(self, None, led, yard, 0, 0)
        gives(self, (('by', 0), ('in', 'a', 1), ('in', 'a', 2), ('by', 2), ('in', 'b', 3)), led, yard, 0, 1)

    def test_without_sources(self):
        gives(self, (), pairs_of, EMPTY)
        gives(self, (), sources, EMPTY, 0)
        gives(self, (), sources, EMPTY, 1)

    def test_wrong_arguments(self):
        for value in NO_SOURCES:
            raises(self, NoSource, value, reached, YARD, value)
        for value in NO_ENDS:
            raises(self, NoEnd, value, sources, YARD, value)
        raises(self, NoEnd, 2, sources, EMPTY, 2)
        raises(self, NoSource, 0, reached, EMPTY, 0)
        gives(self, (0, 1), sources, YARD, 3)


class Led(unittest.TestCase):
    def test_small_yards(self):
        met = []
        for yard in some_yards(104, 150):
            for number, its in zip(sources_of(yard), most_of_all(yard)):
                for end, much in enumerate(its):
                    told = led(yard=yard, number=number, end=end)
                    met.append(told is None)
                    self.assertEqual(told is None, much == 0)
                    if told is not None:
                        self.assertTrue(is_way(yard, number, end, told))
                    gives(self, True, shows_led, yard=yard, number=number, end=end, value=told)
                    gives(self, told is None, shows_led, yard, number, end, None)
        self.assertGreater(min(met.count(True), met.count(False)), 50)

    def test_shows_any_right_one(self):
        dice, met = random.Random(105), []
        for yard in some_yards(105, 100):
            for number in sources_of(yard)[:2]:
                for end in range(len(yard.ends)):
                    for _ in range(6):
                        way = some_way(dice, yard, number)
                        right = is_way(yard, number, end, way)
                        met.append(right)
                        gives(self, right, shows_led, yard, number, end, way)
        self.assertGreater(met.count(True), 50)

    def test_several_ways(self):
        yard = Yard('vessels a b\ndye a 4\npour a b 2\npour b a 1')
        ways = (
            (('by', 0), ('in', 'a', 1), ('in', 'a', 2), ('in', 'a', 3)),
            (('by', 0), ('in', 'a', 1), ('by', 1), ('in', 'b', 2), ('by', 2), ('in', 'a', 3)),
        )
        for way in ways:
            gives(self, True, shows_led, yard, 0, 0, way)
            gives(self, False, shows_led, yard, 0, 1, way)
        gives(self, True, lambda: led(yard, 0, 0) in ways)

    def test_what_leaves_no_place_follows_nothing(self):
        # A draw reaches no place, and a source leaves none, but these are not the same place.
        yard = Yard('vessels a\ndye a 2\ndraw a 1\nfill a 1\ndraw a 1')
        bad = (('by', 0), ('in', 'a', 1), ('by', 1), ('by', 2), ('in', 'a', 3), ('by', 3))
        gives(self, False, shows_led, yard, 0, 2, bad)
        good = (('by', 0), ('in', 'a', 1), ('in', 'a', 2), ('in', 'a', 3), ('by', 3))
        gives(self, True, shows_led, yard, 0, 2, good)

    def test_shows_nothing_else(self):
        gives(self, True, shows_led, YARD, 1, 2, WAY)
        for value in ODD + (
            list(WAY), WAY[1:], WAY[:-1], WAY[:2] + WAY[3:], WAY[:1] + WAY[2:], (('by', 0),) + WAY[1:], WAY[::-1],
            WAY[:-1] + (('in', 'b', 4), ('in', 'b', 5)), WAY + WAY[-1:], (['by', 1],) + WAY[1:], (WAY,), WAY[:1],
            (('by', True),) + WAY[1:], WAY[:-1] + (('by', 4),), WAY[:2] + (None,) + WAY[3:], (('by', 1), ('by', 3)),
            WAY[:1] + (('in', 'a', 2), ('in', 'a', 3), ('in', 'a', 4), ('in', 'a', 5)), dict.fromkeys(WAY), (None,),
        ) + tuple(WAY[:2] + (value,) + WAY[3:] for value in ODD):
            gives(self, False, shows_led, YARD, 1, 2, value)

    def test_no_way_over_what_is_empty(self):
        yard = Yard('vessels a b\nfill a 3\npour a b 3\ndye a 2')
        gives(self, False, shows_led, yard, 0, 0, (('by', 0), ('in', 'a', 1), ('in', 'a', 2), ('in', 'a', 3)))
        gives(self, True, shows_led, yard, 0, 0, None)
        for value in ODD[1:]:
            gives(self, False, shows_led, yard, 0, 0, value)

    def test_large_yards(self):
        for number in sources_of(LARGE):
            for end in range(len(LARGE.ends)):
                gives(self, True, shows_led, LARGE, number, end, led(LARGE, number, end))

    def test_wrong_arguments(self):
        for call, more in ((led, ()), (shows_led, (None,)), (shows_led, (WAY,))):
            for value in NO_SOURCES:
                raises(self, NoSource, value, call, YARD, value, 2, *more)
                raises(self, NoSource, value, call, YARD, value, None, *more)
            for value in NO_ENDS:
                raises(self, NoEnd, value, call, YARD, 1, value, *more)
            raises(self, NoSource, 0, call, EMPTY, 0, 0, *more)


def some_way(dice, yard, number):
    """Some spots one behind the other from a source on, until none follows, now and then with a wrong one."""
    way = [('by', number)]
    while places(yard, way[-1])[1] is not None:
        after = [spot for spot in all_spots(yard) if places(yard, spot)[0] == places(yard, way[-1])[1]]
        full = [spot for spot in after if yard.amount(spot) > 0]
        way.append(dice.choice(full if full and dice.random() < 0.95 else after))
    return tuple(way)


if __name__ == '__main__':
    unittest.main()
