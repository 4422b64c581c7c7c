"""Section 17: needless samples."""

import random
import unittest

from dyedpours.errors import BadNumbers, NoMixing, OtherSteps
from dyedpours.lots import fitting
from dyedpours.needless import by_samples, needless, shows_within, thinned, within
from dyedpours.yards import Yard, yard_of
from tests.helpers import (
    EMPTY, LARGE, NONE, ODD, TWO, YARD, all_mixings, fitting_ones, gives, kept, lots_of, raises, some_sample,
    some_yards,
)
from tests.test_mixings import NO_MIXINGS

THREE = TWO.with_sample(('least', 2, ('by', 2))).with_sample(('most', 4, ('by', 2)))
NO_NUMBERS = tuple(value for value in ODD if value != ()) + (
    (3,), (-1,), (0, 0), (1, 0), [0, 1], (0, True), (False,), ('0',), (0, None), ((0,),), 0, {0: 1}, (0, 3), (10 ** 9,),
)


def with_samples(yard, samples):
    """The yard with just these samples."""
    return yard_of(yard.vessels, yard.steps, samples)


def rows_by(yard, numbers):
    """All mixings that keep the samples with these numbers."""
    its = with_samples(yard, [yard.samples[number] for number in numbers])
    return {row for row in all_mixings(yard) if kept(its, row)}


def tells_nothing(yard, numbers, number):
    """Whether each mixing that keeps the other ones of these samples keeps the one of this number."""
    return rows_by(yard, [its for its in numbers if its != number]) == rows_by(yard, numbers)


def some_samples(dice, yard):
    """The yard with other samples."""
    rows = all_mixings(yard)
    samples = [some_sample(dice, yard, rows) for _ in range(dice.randint(0, 3) if len(yard) else 0)]
    return with_samples(yard, list(dict.fromkeys(samples)))


class BySamples(unittest.TestCase):
    def test_all_tuples_of_numbers(self):
        gives(self, True, lambda: by_samples(THREE, (0,)) == TWO)
        for yard in some_yards(80, 60) + [LARGE]:
            for numbers in lots_of(len(yard.samples)):
                its = by_samples(yard=yard, numbers=numbers)
                gives(self, tuple(yard.samples[number] for number in numbers), lambda: its.samples)
                self.assertEqual((its.vessels, its.steps), (yard.vessels, yard.steps))
            self.assertEqual(by_samples(yard, tuple(range(len(yard.samples)))).text, yard.text)
            self.assertEqual(by_samples(yard, ()), yard.bare())

    def test_wrong_numbers(self):
        for value in NO_NUMBERS:
            raises(self, BadNumbers, value, by_samples, THREE, value)
        raises(self, BadNumbers, (0,), by_samples, YARD, (0,))
        raises(self, BadNumbers, (1,), by_samples, TWO, (1,))
        gives(self, True, lambda: by_samples(EMPTY, ()) == EMPTY)


class Needless(unittest.TestCase):
    def test_the_example(self):
        gives(self, (1, 2), needless, THREE)
        gives(self, (0,), thinned, THREE)
        gives(self, ('within',), within, TWO, THREE)
        gives(self, 'beyond', lambda: within(YARD, TWO)[0])

    def test_small_yards(self):
        met = [0, 0]
        for yard in some_yards(81, 250):
            numbers = range(len(yard.samples))
            if not fitting_ones(yard):
                raises(self, NoMixing, yard, needless, yard)
                raises(self, NoMixing, yard, thinned, yard)
                continue
            told = tuple(number for number in numbers if tells_nothing(yard, numbers, number))
            gives(self, told, needless, yard=yard)
            left = list(numbers)
            for number in reversed(numbers):
                if tells_nothing(yard, left, number):
                    left.remove(number)
            gives(self, tuple(left), thinned, yard=yard)
            met = [met[0] + len(told), met[1] + len(left)]
            self.assertEqual(rows_by(yard, left), rows_by(yard, numbers))
        self.assertGreater(min(met), 20)

    def test_two_that_tell_the_same(self):
        yard = Yard(YARD.text + '\nis 2 by 3\nis 0 in b 5\nis 2 in b 4')
        gives(self, (), lambda: needless(Yard(YARD.text + '\nis 2 by 3\nis 0 in b 5')))
        both = Yard(YARD.text + '\nis 1 in b 4\nis 1 in b 5')
        gives(self, (0, 1), needless, both)
        gives(self, (0,), thinned, both)
        raises(self, NoMixing, yard, needless, yard)
        needs = Yard(YARD.text + '\nleast 1 in b 5\nis 1 in b 4')
        gives(self, (0,), needless, needs)
        gives(self, (1,), thinned, needs)

    def test_without_samples(self):
        for yard in (YARD, EMPTY, LARGE.bare()):
            gives(self, (), needless, yard)
            gives(self, (), thinned, yard)

    def test_large_yards(self):
        told, left = needless(LARGE), thinned(LARGE)
        for number in range(6):
            others = tuple(its for its in range(6) if its != number)
            shown = within(by_samples(LARGE, others), by_samples(LARGE, (number,)))
            self.assertEqual(shown == ('within',), number in told)
        gives(self, ('within',), within, by_samples(LARGE, left), LARGE)
        gives(self, (), lambda: needless(by_samples(LARGE, left)))


class Within(unittest.TestCase):
    def test_small_yards(self):
        dice, met = random.Random(82), []
        for yard in some_yards(82, 300):
            one, other = some_samples(dice, yard), some_samples(dice, yard)
            beyond = [row for row in fitting_ones(one) if not kept(other, row)]
            told = within(one=one, other=other)
            met.append(told[0])
            gives(self, True, shows_within, one=one, other=other, value=told)
            if beyond:
                self.assertEqual((told[0], len(told)), ('beyond', 3))
                self.assertIn(told[1], beyond)
                self.assertFalse(kept(with_samples(other, [other.samples[told[2]]]), told[1]))
            else:
                self.assertEqual(told, ('within',))
        self.assertGreater(min(met.count('within'), met.count('beyond')), 30)

    def test_none_fits_one(self):
        for other in (YARD, TWO, NONE, THREE):
            gives(self, ('within',), within, NONE, other)
            gives(self, True, shows_within, NONE, other, ('within',))
            gives(self, False, shows_within, NONE, other, ('beyond', (0, 4, 2, 2, 0), 0))
        gives(self, 'beyond', lambda: within(YARD, NONE)[0])
        gives(self, 'beyond', lambda: within(TWO, NONE)[0])

    def test_other_steps(self):
        far = Yard('vessels b a\n' + TEXT_STEPS)
        for other in ODD[:-6] + (
            far, EMPTY, Yard('vessels a b c\n' + TEXT_STEPS), YARD.with_step(('fill', 'a', 1)), TEXT_STEPS, YARD.text,
            Yard(YARD.text.replace('fill a 6', 'fill a 7')), PourLike(), [YARD], (YARD,),
            Yard(YARD.text.replace('fill a 6\ndye a 4', 'dye a 4\nfill a 6')),
        ):
            with self.assertRaises(OtherSteps) as found:
                within(YARD, other)
            self.assertIs(found.exception.value, other)
            for value in (('within',), ('beyond', (0, 4, 2, 2, 0), 0), None):
                with self.assertRaises(OtherSteps) as found:
                    shows_within(YARD, other, value)
                self.assertIs(found.exception.value, other)
        gives(self, ('within',), within, YARD, Yard(YARD.text))
        gives(self, ('within',), within, EMPTY, Yard(EMPTY.text))

    def test_shows_any_right_one(self):
        dice = random.Random(83)
        for yard in some_yards(83, 100):
            one, other = some_samples(dice, yard), some_samples(dice, yard)
            gives(self, all(kept(other, row) for row in fitting_ones(one)), shows_within, one, other, ('within',))
            for row in all_mixings(yard)[-4:]:
                for number, sample in enumerate(other.samples):
                    right = kept(one, row) and not kept(with_samples(other, [sample]), row)
                    gives(self, right, shows_within, one, other, ('beyond', row, number))

    def test_shows_nothing_else(self):
        row = (0, 4, 2, 1, 1)
        gives(self, True, shows_within, YARD, TWO, ('beyond', row, 0))
        for value in ODD + (
            ('within',), ('beyond', row), ('beyond', row, 0, 0), ['beyond', row, 0], ('beyond', list(row), 0), (row, 0),
            ('beyond', row, 1), ('beyond', row, -1), ('beyond', row, False), ('beyond', row, '0'), ('Beyond', row, 0),
            ('beyond', (0, 4, 2, 2, 0), 0), ('within', row, 0), (None, row, 0), ('beyond', 0, row), ('beyond', row, None),
            ('beyond', row, (0,)), ('beyond', row, 10 ** 9),
        ) + tuple(('beyond', value, 0) for value in NO_MIXINGS) + tuple((value, row, 0) for value in ODD):
            gives(self, False, shows_within, YARD, TWO, value)
        for value in ODD + (
            'within', ['within'], ('within', ()), ('within', None), ('Within',), ('beyond',), ('beyond', row, 0),
            (('within',),),
        ) + tuple((value,) for value in ODD):
            gives(self, False, shows_within, TWO, YARD, value)

    def test_shows_no_mixing_that_does_not_fit_one(self):
        row, one = (0, 4, 2, 1, 1), YARD.with_sample(('is', 0, ('by', 3)))
        gives(self, False, shows_within, one, TWO, ('beyond', row, 0))
        gives(self, True, shows_within, one, TWO, within(one, TWO))
        gives(self, False, shows_within, TWO, THREE, ('beyond', (0, 4, 2, 2, 0), 2))

    def test_large_yards(self):
        for numbers in lots_of(6)[::4]:
            one = by_samples(LARGE, numbers)
            gives(self, ('within',), within, LARGE, one)
            told = within(one, LARGE)
            gives(self, True, shows_within, one, LARGE, told)
            self.assertEqual(fitting(one)[0], 'mixing')


class PourLike:
    """What has vessels and steps as the yard, but is no Yard."""

    vessels = YARD.vessels
    steps = YARD.steps


TEXT_STEPS = YARD.text.split('\n', 1)[1]

if __name__ == '__main__':
    unittest.main()
