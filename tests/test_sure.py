"""Section 16: what is sure."""

import random
import unittest

from dyedpours.cuts import lets_one, wants_one
from dyedpours.errors import BadSample, NoMixing
from dyedpours.lots import ranges
from dyedpours.moves import all_spots
from dyedpours.sure import clean, shows_sure, sure, sure_dye
from dyedpours.yards import Yard
from tests.helpers import (
    BEYOND, EMPTY, LARGE, NONE, ODD, TWO, YARD, fitting_ones, gives, raises, some_yards, spot_dye,
)
from tests.test_cuts import NO_CUTS, some_cut
from tests.test_mixings import NO_MIXINGS

CLAIM = ('least', 1, ('by', 3))
NO_CLAIMS = ODD + (
    ['is', 1, ('by', 3)], ('Is', 1, ('by', 3)), ('is', -1, ('by', 3)), ('is', 10000, ('by', 3)), ('is', True, ('by', 3)),
    ('is', '1', ('by', 3)), ('is', None, ('by', 3)), ('is', 1, ('by', 5)), ('is', 1, ['by', 3]), ('is', 1, ('in', 'a', 0)),
    ('is', 1), ('is', 1, ('by', 3), 0), (1, 'is', ('by', 3)), ('is', 1, ('by', True)), ('is', 1, 'by', 3), ('is', 1, None),
    ((), 1, ('by', 3)), ('is', 1, ('in', 'a', 6)), ('is', 1, ('in', 'c', 1)),
)


def keeps_claim(yard, row, claim):
    """Whether a mixing keeps a claim."""
    word, number, spot = claim
    its = spot_dye(yard, row, spot)
    return {'is': its == number, 'least': its >= number, 'most': its <= number}[word]


def some_claim(dice, yard, rows):
    """Some claim, of a spot that has not always the same dye if there is one, nearly as one of these rows has it."""
    spots = [spot for spot in all_spots(yard) if len({spot_dye(yard, row, spot) for row in rows}) > 1]
    spot = dice.choice(spots if spots and dice.random() < 0.8 else all_spots(yard))
    number = spot_dye(yard, dice.choice(rows), spot) + dice.choice((-1, 0, 0, 1))
    return (dice.choice(('is', 'least', 'most')), max(0, number), spot)


def is_right(yard, rows, claim, told):
    """Whether this is right of the claim, rows being all mixings that fit."""
    word, number, spot = claim
    if told[0] == 'surely':
        wants = [wants_one(yard, spot, cut) >= number for cut in told[1][:1]] if word != 'most' else []
        lets = [lets_one(yard, spot, cut) <= number for cut in told[1][-1:]] if word != 'least' else []
        return len(told[1]) == (2 if word == 'is' else 1) and all(wants + lets)
    if told[0] == 'never':
        low, high = wants_one(yard, spot, told[1]), lets_one(yard, spot, told[1])
        return word != 'most' and high < number or word != 'least' and low > number
    return all(row in rows for row in told[1:]) and [keeps_claim(yard, row, claim) for row in told[1:]] == [True, False]


class Sure(unittest.TestCase):
    def test_the_example(self):
        gives(self, 'surely', lambda: sure(YARD, ('most', 3, ('in', 'b', 5)))[0])
        gives(self, 'open', lambda: sure(YARD, CLAIM)[0])
        gives(self, 'never', lambda: sure(TWO, ('is', 1, ('by', 2)))[0])
        gives(self, True, shows_sure, YARD, ('most', 3, ('in', 'b', 5)), ('surely', ((),)))

    def test_small_yards(self):
        dice, met = random.Random(70), []
        for yard in some_yards(70, 400):
            rows = fitting_ones(yard)
            for _ in range(6 if rows and len(yard) else 0):
                claim = some_claim(dice, yard, rows)
                kept = [keeps_claim(yard, row, claim) for row in rows]
                told = sure(yard=yard, claim=claim)
                met.append((claim[0], told[0]))
                self.assertEqual(told[0], 'surely' if all(kept) else 'open' if any(kept) else 'never')
                self.assertEqual(len(told), 3 if told[0] == 'open' else 2)
                self.assertTrue(is_right(yard, rows, claim, told))
                gives(self, True, shows_sure, yard=yard, claim=claim, value=told)
        for pair in [(word, its) for word in ('is', 'least', 'most') for its in ('surely', 'open', 'never')]:
            self.assertGreaterEqual(met.count(pair), 10, pair)

    def test_just_within_and_just_beyond(self):
        # This spot has from 0 to 4 grains, and with the sample from 2 to 4.
        for yard, answers in (
            (YARD, {
                'is': ('open',) * 5 + ('never',), 'least': ('surely', 'open', 'open', 'open', 'open', 'never'),
                'most': ('open', 'open', 'open', 'open', 'surely', 'surely'),
            }),
            (TWO, {
                'is': ('never', 'never', 'open', 'open', 'open', 'never'),
                'least': ('surely', 'surely', 'surely', 'open', 'open', 'never'),
                'most': ('never', 'never', 'open', 'open', 'surely', 'surely'),
            }),
        ):
            for word, told in answers.items():
                for number, answer in enumerate(told):
                    gives(self, answer, lambda: sure(yard, (word, number, ('by', 2)))[0])
        gives(self, 'surely', lambda: sure(TWO, ('is', 2, ('by', 3)))[0])
        gives(self, 'surely', lambda: sure(YARD, ('is', 4, ('by', 1)))[0])
        gives(self, 'never', lambda: sure(YARD, ('least', 9999, ('by', 2)))[0])
        gives(self, 'surely', lambda: sure(YARD, ('most', 9999, ('by', 2)))[0])

    def test_large_yards(self):
        dice = random.Random(71)
        for yard in (LARGE, LARGE.bare()):
            for (low, high), spot in list(zip(ranges(yard), all_spots(yard)))[::3]:
                for number in {low, high, (low + high) // 2, high + 1, max(low - 1, 0), dice.randint(0, 99)}:
                    for word in ('is', 'least', 'most'):
                        told = sure(yard, (word, number, spot))
                        gives(self, True, shows_sure, yard, (word, number, spot), told)

    def test_wrong_arguments(self):
        for call, more in ((sure, ()), (shows_sure, (None,)), (shows_sure, (('surely', ((),)),))):
            for value in NO_CLAIMS:
                raises(self, BadSample, value, call, YARD, value, *more)
                raises(self, NoMixing, NONE, call, NONE, value, *more)
            raises(self, NoMixing, NONE, call, NONE, CLAIM, *more)
            raises(self, BadSample, ('is', 0, ('in', 'a', 0)), call, EMPTY, ('is', 0, ('in', 'a', 0)), *more)


class Shows(unittest.TestCase):
    def test_any_right_one(self):
        dice, met = random.Random(72), []
        for yard in some_yards(72, 150):
            rows = fitting_ones(yard)
            for _ in range(10 if rows and len(yard) else 0):
                claim = some_claim(dice, yard, rows)
                cuts = [some_cut(dice, yard) if dice.random() < 0.5 else () for _ in range(2)]
                for told in (
                    ('surely', tuple(cuts)), ('surely', tuple(cuts[:1])), ('surely', ()), ('never', cuts[0]),
                    ('open', dice.choice(rows), dice.choice(rows)),
                ):
                    right = is_right(yard, rows, claim, told)
                    met.append((told[0], right))
                    gives(self, right, shows_sure, yard, claim, told)
        self.assertGreater(min(met.count((word, True)) for word in ('surely', 'never', 'open')), 20)

    def test_nothing_else(self):
        row, other = sure(YARD, CLAIM)[1:]
        gives(self, True, shows_sure, YARD, CLAIM, ('open', row, other))
        for value in ODD + (
            ('open', other, row), ('open', row, row), ('open', other, other), ('open', row), ('open', row, other, 0),
            ['open', row, other], ('open', list(row), other), ('open', row, list(other)), ('Open', row, other),
            ('surely', ((),)), ('never', ()), ('open', (row, other)), (None, row, other), ('surely', row, other),
        ) + tuple((value, row, other) for value in ODD):
            gives(self, False, shows_sure, YARD, CLAIM, value)
        for value in NO_MIXINGS:
            gives(self, False, shows_sure, YARD, CLAIM, ('open', row, value))
            gives(self, False, shows_sure, YARD, CLAIM, ('open', value, other))

    def test_nothing_else_for_surely(self):
        claim = ('most', 3, ('in', 'b', 5))
        for value in ODD + (
            'surely', ('surely',), ('surely', ()), ('surely', [()]), ['surely', ((),)], ('surely', ((), ())), (((),),),
            ('surely', ((),), 0), ('never', ((),)), ('never', ()), ('surely', (None,)), ('Surely', ((),)),
        ) + tuple(('surely', (value,)) for value in NO_CUTS) + tuple((value, ((),)) for value in ODD):
            gives(self, False, shows_sure, YARD, claim, value)
        least, most = sure(TWO, ('is', 2, ('by', 3)))[1]
        gives(self, True, shows_sure, TWO, ('is', 2, ('by', 3)), ('surely', (least, most)))
        for value in NO_CUTS:
            gives(self, False, shows_sure, TWO, ('is', 2, ('by', 3)), ('surely', (least, value)))
            gives(self, False, shows_sure, TWO, ('is', 2, ('by', 3)), ('surely', (value, most)))

    def test_the_cut_that_wants_comes_first(self):
        # Of one spot the cut () wants and lets no other number than the bounds, the other one just 4.
        yard = Yard('vessels a b\ndye a 4\npour a b 4\nmost 4 by 1')
        wants, lets = (('a', 0), ('a', 1)), ()
        gives(self, (4, 0), lambda: (wants_one(yard, ('by', 1), wants), wants_one(yard, ('by', 1), lets)))
        for claim, cuts, answer in (
            ('is', (wants, lets), True), ('is', (lets, wants), False), ('is', (wants, wants), True),
            ('is', (wants,), False), ('least', (wants,), True), ('least', (wants, lets), False),
            ('most', (lets,), True), ('most', (wants, lets), False), ('least', (lets,), False),
        ):
            gives(self, answer, shows_sure, yard, (claim, 4, ('by', 1)), ('surely', cuts))

    def test_nothing_else_for_never(self):
        claim = ('is', 1, ('by', 2))
        told = sure(TWO, claim)
        gives(self, True, shows_sure, TWO, claim, told)
        for value in ODD + (
            'never', ('never',), ('never', (told[1],)), ['never', told[1]], ('never', list(told[1])), ('never', ()),
            ('surely', told[1]), ('surely', (told[1],)), ('surely', (told[1], told[1])), ('never', told[1], 0),
            ('never', BEYOND, BEYOND), ('Never', told[1]),
        ) + tuple((value, told[1]) for value in ODD):
            gives(self, False, shows_sure, TWO, claim, value)
        for value in NO_CUTS:
            gives(self, False, shows_sure, TWO, claim, ('never', value))

    def test_no_mixing_that_does_not_fit(self):
        claim = ('least', 3, ('by', 2))
        told = sure(TWO, claim)
        gives(self, True, shows_sure, TWO, claim, told)
        gives(self, False, shows_sure, TWO, claim, ('open', told[1], (0, 4, 0, 0, 2)))
        gives(self, False, shows_sure, TWO, claim, ('open', (0, 4, 4, 1, 0), told[2]))
        gives(self, True, shows_sure, YARD, claim, ('open', (0, 4, 4, 1, 0), (0, 4, 0, 0, 2)))


class Dyed(unittest.TestCase):
    def test_the_example(self):
        gives(self, (('by', 1), ('in', 'a', 2)), sure_dye, YARD)
        gives(self, (('by', 1), ('by', 2), ('by', 3)), lambda: sure_dye(TWO)[:3])
        gives(self, (('by', 0), ('in', 'a', 1), ('in', 'b', 1), ('in', 'b', 2)), clean, YARD)

    def test_small_yards(self):
        for yard in some_yards(73, 200):
            rows = fitting_ones(yard)
            if rows:
                dyes = [(spot, [spot_dye(yard, row, spot) for row in rows]) for spot in all_spots(yard)]
                gives(self, tuple(spot for spot, its in dyes if min(its) > 0), sure_dye, yard=yard)
                gives(self, tuple(spot for spot, its in dyes if max(its) == 0), clean, yard=yard)

    def test_without_steps_and_without_mixings(self):
        gives(self, (), sure_dye, EMPTY)
        gives(self, (), clean, EMPTY)
        raises(self, NoMixing, NONE, sure_dye, NONE)
        raises(self, NoMixing, NONE, clean, NONE)


if __name__ == '__main__':
    unittest.main()
