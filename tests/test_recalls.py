"""Section 22: which ends to call back."""

import random
import unittest

from dyedpours.cuts import lets
from dyedpours.errors import BadLot, BadMost, BadPrices, NoMixing
from dyedpours.leaks import leak
from dyedpours.recalls import (
    cheapest_lot, fewest, holding, holds, shows_cheapest_lot, shows_fewest, shows_holds, vital,
)
from dyedpours.yards import Yard
from tests.helpers import (
    EMPTY, LARGE, NONE, ODD, TWO, YARD, fitting_ones, gives, lot_dye, lots_of, raises, some_yards,
)
from tests.test_cuts import NO_CUTS, NO_LOTS, some_cut, some_lot
from tests.test_leaks import rest
from tests.test_mixings import NO_MIXINGS

NO_MOSTS = tuple(value for value in ODD if type(value) is not int) + (-1, 10000, 10 ** 9, (0,), [0], '0')
NO_PRICES = ODD + (
    (9, 1, 1), (9, 1, 1, 1, 1), [9, 1, 1, 1], (0, 1, 1, 1), (1, 1, 1, 100), (True, 1, 1, 1), (1, 1, 1, None),
    (1, '1', 1, 1), (1, -1, 1, 1), ((1,), 1, 1, 1), (1, 1, 1, False),
)
PRICES = (9, 1, 1, 1)


def leak_of(yard, rows, lot):
    """What leaks by all these mixings."""
    return max(lot_dye(yard, row, rest(yard, lot)) for row in rows)


def all_holding(yard, rows, most):
    """All lots that hold most, in sequence."""
    return [lot for lot in lots_of(len(yard.ends)) if leak_of(yard, rows, lot) <= most]


def by_price(prices):
    """All lots by the sum of their prices, then in sequence."""
    return sorted(lots_of(len(prices)), key=lambda lot: sum(prices[number] for number in lot))


def is_told(yard, rows, lots, most, lot, cut, bars):
    """Whether a lot is the first one of these that holds most, and whether the cut and the bars show it."""
    first = next(its for its in lots if leak_of(yard, rows, its) <= most)
    right = all(row in rows and lot_dye(yard, row, rest(yard, barred)) > most for barred, row in bars)
    ahead = lots[:lots.index(lot)]
    barred = all(any(set(its) <= set(bar) for bar, _ in bars) for its in ahead)
    return lot == first and right and barred and lets(yard, rest(yard, lot), cut) <= most


class Holds(unittest.TestCase):
    def test_the_example(self):
        gives(self, 'holds', lambda: holds(YARD, (0, 1, 3), 2)[0])
        gives(self, True, shows_holds, YARD, (0, 1, 3), 2, ('holds', ()))
        gives(self, True, shows_holds, YARD, (0, 1), 2, ('leaks', (0, 4, 1, 0, 3)))

    def test_small_yards(self):
        dice, met = random.Random(150), []
        for yard in some_yards(150, 250):
            rows = fitting_ones(yard)
            for lot in [some_lot(dice, yard) for _ in range(3)] if rows else []:
                most = max(0, leak_of(yard, rows, lot) + dice.choice((-2, -1, -1, 0, 0, 1)))
                told = holds(yard=yard, lot=lot, most=most)
                met.append(told[0])
                self.assertEqual(told[0], 'holds' if leak_of(yard, rows, lot) <= most else 'leaks')
                self.assertEqual(len(told), 2)
                if told[0] == 'holds':
                    self.assertLessEqual(lets(yard, rest(yard, lot), told[1]), most)
                else:
                    self.assertIn(told[1], rows)
                    self.assertGreater(lot_dye(yard, told[1], rest(yard, lot)), most)
                gives(self, True, shows_holds, yard=yard, lot=lot, most=most, value=told)
        self.assertGreater(min(met.count('holds'), met.count('leaks')), 50)

    def test_shows_any_right_one(self):
        dice, met = random.Random(151), []
        for yard in some_yards(151, 150):
            rows = fitting_ones(yard)
            for lot in [some_lot(dice, yard) for _ in range(4)] if rows else []:
                most = max(0, leak_of(yard, rows, lot) + dice.choice((-1, -1, 0, 1)))
                for cut in ((), some_cut(dice, yard)):
                    right = lets(yard, rest(yard, lot), cut) <= most
                    gives(self, right, shows_holds, yard, lot, most, ('holds', cut))
                    met.append(('holds', right))
                row = dice.choice(rows)
                right = lot_dye(yard, row, rest(yard, lot)) > most
                gives(self, right, shows_holds, yard, lot, most, ('leaks', row))
                met.append(('leaks', right))
        for word in ('holds', 'leaks'):
            self.assertGreater(min(met.count((word, right)) for right in (True, False)), 20)

    def test_shows_nothing_else(self):
        row = (0, 4, 1, 0, 3)
        for value in ODD + (
            'leaks', ('leaks',), ('leaks', row, 0), ['leaks', row], ('leaks', (row,)), ('holds', row), ('Leaks', row),
            ('leaks', (0, 4, 0, 0, 2)), ('leaks', ()), ('holds', ()), (None, row), (('leaks',), row),
        ) + tuple(('leaks', value) for value in NO_MIXINGS) + tuple((value, row) for value in ODD):
            gives(self, False, shows_holds, YARD, (0, 1), 2, value)
        for value in ODD + (
            'holds', ('holds',), ('holds', (), 0), ['holds', ()], ('holds', ((),)), ('leaks', ()), ('leaks', row),
        ) + tuple(('holds', value) for value in NO_CUTS) + tuple((value, ()) for value in ODD):
            gives(self, False, shows_holds, YARD, (0, 1, 3), 2, value)
        gives(self, False, shows_holds, TWO, (2,), 0, ('leaks', row))
        gives(self, True, shows_holds, TWO, (2,), 0, ('leaks', (0, 4, 2, 2, 0)))

    def test_wrong_arguments(self):
        for call, more in ((holds, ()), (shows_holds, (None,)), (shows_holds, (('holds', ()),))):
            for value in NO_LOTS:
                raises(self, BadLot, value, call, YARD, value, 2, *more)
                raises(self, BadLot, value, call, YARD, value, None, *more)
                raises(self, NoMixing, NONE, call, NONE, value, None, *more)
            for value in NO_MOSTS:
                raises(self, BadMost, value, call, YARD, (0,), value, *more)
            raises(self, NoMixing, NONE, call, NONE, (0,), 2, *more)
        gives(self, 'holds', lambda: holds(YARD, (), 9999)[0])
        gives(self, 'leaks', lambda: holds(YARD, (), 0)[0])


class Holding(unittest.TestCase):
    def test_the_example(self):
        gives(self, ((0, 1, 3), (1, 2, 3)), holding, YARD, 2)
        gives(self, (1, 3), vital, YARD, 2)

    def test_small_yards(self):
        met = []
        for yard in some_yards(152, 250):
            rows = fitting_ones(yard)
            for most in (0, 1, 2, 4) if rows else ():
                lots = all_holding(yard, rows, most)
                least = tuple(lot for lot in lots if not any(set(its) < set(lot) for its in lots))
                gives(self, least, holding, yard=yard, most=most)
                vitals = set(range(len(yard.ends))).intersection(*lots)
                gives(self, tuple(sorted(vitals)), vital, yard=yard, most=most)
                met.append((len(least), len(vitals)))
        self.assertGreater(max(met)[0], 4)
        self.assertGreater(len(set(met)), 12)

    def test_the_largest_yard(self):
        for yard in (LARGE, LARGE.bare()):
            for most in (0, 40, 99, 150, 198):
                told = holding(yard, most)
                self.assertEqual(list(told), sorted(told, key=lambda lot: (len(lot), lot)))
                for lot in told[::5]:
                    self.assertLessEqual(leak(yard, lot), most)
                    for number in lot:
                        self.assertGreater(leak(yard, tuple(its for its in lot if its != number)), most)
                for lot in lots_of(9)[::23]:
                    self.assertEqual(leak(yard, lot) <= most, any(set(its) <= set(lot) for its in told))
                vitals = set(range(9)).intersection(*told)
                gives(self, tuple(sorted(vitals)), vital, yard, most)

    def test_without_steps_and_wrong_arguments(self):
        gives(self, ((),), holding, EMPTY, 0)
        gives(self, (), vital, EMPTY, 0)
        gives(self, ((),), holding, YARD, 4)
        gives(self, ((),), holding, YARD, 9999)
        gives(self, (), vital, YARD, 9999)
        gives(self, ((0, 1, 2, 3),), holding, YARD, 0)
        for call in (holding, vital):
            for value in NO_MOSTS:
                raises(self, BadMost, value, call, YARD, value)
                raises(self, NoMixing, NONE, call, NONE, value)
            raises(self, NoMixing, NONE, call, NONE, 0)


class Fewest(unittest.TestCase):
    def test_the_example(self):
        gives(self, (0, 1, 2), lambda: fewest(YARD, 3)[0])
        gives(self, (0, 1, 2, 3), lambda: fewest(YARD, 1)[0])
        gives(self, (3, (1, 2, 3)), lambda: cheapest_lot(YARD, PRICES, 3)[:2])

    def test_small_yards(self):
        dice, met = random.Random(153), []
        for yard in some_yards(153, 200):
            rows = fitting_ones(yard)
            for most in (0, 1, 3) if rows else ():
                lot, cut, bars = fewest(yard=yard, most=most)
                self.assertTrue(is_told(yard, rows, lots_of(len(yard.ends)), most, lot, cut, bars))
                gives(self, True, shows_fewest, yard=yard, most=most, value=(lot, cut, bars))
                prices = tuple(dice.choice((1, 1, 2, 3, 99)) for _ in yard.ends)
                price, cheap, cut, bars = cheapest_lot(yard=yard, prices=prices, most=most)
                self.assertEqual(price, sum(prices[number] for number in cheap))
                self.assertTrue(is_told(yard, rows, by_price(prices), most, cheap, cut, bars))
                gives(
                    self, True, shows_cheapest_lot, yard=yard, prices=prices, most=most,
                    value=(price, cheap, cut, bars),
                )
                met.append((lot, cheap))
        self.assertGreater(len([pair for pair in met if pair[0] != pair[1]]), 20)
        self.assertGreater(len(set(met)), 20)

    def test_of_lots_of_one_price_the_one_of_fewer_ends_comes_first(self):
        # Each glass has one dyed grain, and nothing is left in the vessel.
        yard = Yard('vessels a\ndye a 3\ndraw a 1\ndraw a 1\ndraw a 1')
        for prices, most, price, lot in (
            ((9, 1, 1, 2), 1, 2, (1, 2)), ((9, 2, 1, 1), 2, 1, (2,)), ((9, 1, 1, 1), 2, 1, (1,)),
            ((1, 9, 9, 9), 2, 9, (1,)), ((9, 1, 2, 1), 1, 2, (1, 3)), ((1, 2, 2, 3), 1, 4, (1, 2)),
        ):
            gives(self, (price, lot), lambda: cheapest_lot(yard, prices, most)[:2])
        # Both vessels together, and the third one, each hold; the third one alone is of fewer ends.
        other = Yard('vessels a b c\ndye a 2\npour a b 1\ndye c 2')
        gives(self, (2, (2,)), lambda: cheapest_lot(other, (1, 1, 2), 2)[:2])
        gives(self, (2, (0, 1)), lambda: cheapest_lot(other, (1, 1, 3), 2)[:2])

    def test_bars_of_any_lots(self):
        lot, cut, bars = fewest(YARD, 3)
        row = (0, 4, 0, 0, 2)
        # Behind the told lot in the sequence, and still a bar: by this row the rest of it has four.
        yard = Yard('vessels a b c\ndye a 4\npour a b 4')
        told = ((1,), ())
        for bars, right in (
            ((((0, 2), (4, 4)),), True), ((((), (4, 4)), ((0,), (4, 4))), True), ((((0,), (4, 4)),), True),
            ((((0,), (4, 4)), ((0,), (4, 4)), ((2,), (4, 4))), True), ((((), (4, 4)),), False), ((), False),
            ((((2,), (4, 4)),), False), ((((0, 1), (4, 4)),), False), ((((0,), (4, 4)), ((1,), (4, 4))), False),
        ):
            gives(self, right, shows_fewest, yard, 3, told + (bars,))
            gives(self, right, shows_cheapest_lot, yard, (1, 1, 1), 3, (1,) + told + (bars,))
        gives(self, False, shows_fewest, YARD, 3, (lot, cut, (((0, 1), row),)))

    def test_nothing_else(self):
        lot, cut, bars = fewest(YARD, 3)
        gives(self, True, shows_fewest, YARD, 3, (lot, cut, bars))
        wrong = ODD + (
            (lot, cut), (lot, cut, bars, 0), [lot, cut, bars], (list(lot), cut, bars), (lot, list(cut), bars),
            (lot, cut, list(bars)), (lot, cut, bars + (None,)), (lot, cut, bars[1:]), (lot, cut, ()), (lot, cut, None),
            ((0, 1, 3), cut, bars), ((0, 1, 2, 3), (), bars), ((0, 1), cut, bars), (lot, cut, (bars,)),
            (lot, cut, bars + ((lot, (0, 4, 4, 2, 0)),)), (lot, cut, bars[:-1]), (lot, bars, cut),
        )
        for value in wrong:
            gives(self, False, shows_fewest, YARD, 3, value)
            value = (0,) + value if isinstance(value, tuple) else value
            gives(self, False, shows_cheapest_lot, YARD, (1, 1, 1, 1), 3, value)
        for value in NO_LOTS:
            gives(self, False, shows_fewest, YARD, 3, (value, cut, bars))
            gives(self, False, shows_fewest, YARD, 3, (lot, cut, bars + ((value, bars[0][1]),)))
        for value in NO_CUTS:
            gives(self, False, shows_fewest, YARD, 3, (lot, value, bars))
        for value in NO_MIXINGS:
            gives(self, False, shows_fewest, YARD, 3, (lot, cut, bars + ((bars[0][0], value),)))
        for value in ODD:
            gives(self, False, shows_fewest, YARD, 3, (lot, cut, bars + (value,)))
            gives(self, value == (), shows_fewest, YARD, 4, fewest(YARD, 4)[:2] + (value,))
            gives(self, False, shows_fewest, YARD, 3, (lot, cut, bars + (bars[0] + (value,),)))

    def test_nothing_else_for_the_cheapest(self):
        told = cheapest_lot(YARD, PRICES, 3)
        gives(self, True, shows_cheapest_lot, YARD, PRICES, 3, told)
        for value in ODD + (
            told[1:], told + (0,), list(told), (2,) + told[1:], (4,) + told[1:], (True,) + told[1:], (None,) + told[1:],
            ('3',) + told[1:], told[:3] + (told[3][:-1],), told[:1] + ((0, 1, 2),) + told[2:], told[:3], (-3,) + told[1:],
            (11, (0, 1, 2)) + told[2:],
        ):
            gives(self, False, shows_cheapest_lot, YARD, PRICES, 3, value)
        yard = Yard('vessels a\ndye a 1')
        one = cheapest_lot(yard, (1,), 0)
        gives(self, (1, (0,)), lambda: one[:2])
        gives(self, False, shows_cheapest_lot, yard, (1,), 0, (True,) + one[1:])

    def test_without_steps(self):
        gives(self, ((), (), ()), fewest, EMPTY, 0)
        gives(self, (0, (), (), ()), cheapest_lot, EMPTY, (1, 99), 0)
        gives(self, True, shows_fewest, EMPTY, 0, ((), (), ()))
        gives(self, False, shows_fewest, EMPTY, 0, ((0,), (), ()))
        gives(self, False, shows_fewest, EMPTY, 0, ((), (), (((), ()),)))
        gives(self, True, shows_cheapest_lot, EMPTY, (1, 99), 0, (0, (), (), ()))
        gives(self, False, shows_cheapest_lot, EMPTY, (1, 99), 0, (False, (), (), ()))

    def test_the_largest_yard(self):
        dice = random.Random(154)
        for yard in (LARGE, LARGE.bare()):
            for most in (0, 60, 120, 197):
                told = fewest(yard, most)
                gives(self, told[0], lambda: holding(yard, most)[0])
                gives(self, True, shows_fewest, yard, most, told)
                prices = tuple(dice.randint(1, 99) for _ in range(9))
                told = cheapest_lot(yard, prices, most)
                cost = min(sum(prices[number] for number in lot) for lot in holding(yard, most))
                self.assertEqual(told[0], cost)
                gives(self, True, shows_cheapest_lot, yard, prices, most, told)

    def test_wrong_arguments(self):
        for call, more in ((fewest, ()), (shows_fewest, (None,)), (shows_fewest, (((), (), ()),))):
            for value in NO_MOSTS:
                raises(self, BadMost, value, call, YARD, value, *more)
                raises(self, NoMixing, NONE, call, NONE, value, *more)
        for call, more in ((cheapest_lot, ()), (shows_cheapest_lot, (None,))):
            for value in NO_PRICES:
                raises(self, BadPrices, value, call, YARD, value, 3, *more)
                raises(self, BadPrices, value, call, YARD, value, None, *more)
                raises(self, NoMixing, NONE, call, NONE, value, None, *more)
            for value in NO_MOSTS:
                raises(self, BadMost, value, call, YARD, PRICES, value, *more)
            raises(self, NoMixing, NONE, call, NONE, PRICES, 3, *more)
            raises(self, BadPrices, (1,), call, EMPTY, (1,), 0, *more)
        gives(self, 4, lambda: len(cheapest_lot(YARD, (99, 1, 99, 1), 9999)))


if __name__ == '__main__':
    unittest.main()
