"""Sections 2 and 3: what holds of all functions together."""

import random
import unittest

from dyedpours.every import every
from dyedpours.exchange import exchanged, joined, may_exchange, normal, parted, same_steps
from dyedpours.grains import path
from dyedpours.lots import fitting, greatest, highest, least, lowest, ranges
from dyedpours.mixings import dye, eager, shy
from dyedpours.moves import all_spots
from dyedpours.yards import Yard, yard_of
from tests.helpers import LARGE, NONE, TWO, YARD, fitting_ones, gives, same, some_yards
from tests.test_cuts import some_lot


def end_names(yard):
    """What each end is named by, whatever stands ahead of its step: its vessel, or its step."""
    drawn = [(step, yard.steps[:at].count(step)) for at, step in enumerate(yard.steps) if step[0] == 'draw']
    return list(yard.vessels) + drawn


def told_of_ends(yard, names):
    """The greatest and the least dye of the ends with these names together."""
    lot = tuple(sorted(end_names(yard).index(name) for name in names))
    return greatest(yard, lot)[0], least(yard, lot)[0]


class Guarantees(unittest.TestCase):
    def test_b_more_samples(self):
        dice = random.Random(30)
        for yard in some_yards(30, 80):
            for spot in all_spots(yard)[::3]:
                sample = (dice.choice(('is', 'least', 'most')), dice.randint(0, yard.amount(spot)), spot)
                if len(yard.samples) < 6 and sample not in yard.samples and fitting(yard.with_sample(sample))[0] == 'mixing':
                    more = yard.with_sample(sample)
                    for (low, high), (lower, higher) in zip(ranges(more), ranges(yard)):
                        self.assertTrue(lower <= low <= high <= higher)

    def test_b_samples_that_a_mixing_keeps(self):
        for yard in some_yards(31, 60):
            for row in (eager(yard), shy(yard)):
                its = yard.bare()
                for word, spot in list(zip(('is', 'least', 'most') * 2, all_spots(yard)[::-2])):
                    its = its.with_sample((word, dye(yard, row, spot), spot))
                gives(self, 'mixing', lambda: fitting(its)[0])

    def test_c_exchanged_joined_parted(self):
        for yard in some_yards(32, 60):
            bare, others = yard.bare(), [normal(yard)]
            others += [exchanged(yard, at) for at in range(len(yard) - 1) if may_exchange(yard, at)]
            for at, step in enumerate(yard.steps):
                if step[0] != 'draw' and step[-1] > 1:
                    others.append(parted(yard, at, step[-1] // 2))
                    gives(self, bare, joined, others[-1], at)
            for other in others:
                for name in end_names(bare):
                    self.assertEqual(told_of_ends(bare, [name]), told_of_ends(other, [name]))
                some = end_names(bare)[::2]
                self.assertEqual(told_of_ends(bare, some), told_of_ends(other, some))

    def test_d_other_names_in_another_sequence(self):
        names = {'a': 'fill', 'b': 'zz', 'c': 'in', 'zz': 'a', 'by': 'is', 'fill': 'by'}
        for yard in some_yards(33, 80):
            vessels = [names[vessel] for vessel in yard.vessels]
            steps = [(step[0], *[names[its] for its in step[1:-1]], step[-1]) for step in yard.steps]
            renamed = {spot: (*spot[:1], names[spot[1]], spot[2]) if spot[0] == 'in' else spot for spot in all_spots(yard)}
            samples = [(word, number, renamed[spot]) for word, number, spot in yard.samples]
            other = yard_of(vessels[::-1], steps, samples)
            self.assertEqual(fitting(other)[0] == 'mixing', fitting(yard)[0] == 'mixing')
            if fitting(yard)[0] == 'mixing':
                told, its = dict(zip(all_spots(other), ranges(other))), dict(zip(all_spots(yard), ranges(yard)))
                self.assertEqual({renamed[spot]: its[spot] for spot in its}, told)

    def test_e_so_many_times(self):
        for yard in some_yards(34, 60):
            steps = [step[:-1] + (3 * step[-1],) for step in yard.steps]
            if max([step[-1] for step in steps], default=0) <= 99:
                other = yard_of(yard.vessels, steps, [(word, 3 * number, spot) for word, number, spot in yard.samples])
                self.assertEqual(fitting(other)[0] == 'mixing', fitting(yard)[0] == 'mixing')
                if fitting(yard)[0] == 'mixing':
                    self.assertEqual(ranges(other), tuple((3 * low, 3 * high) for low, high in ranges(yard)))
                    lot = tuple(range(len(yard.ends)))[::2]
                    self.assertEqual(greatest(other, lot)[0], 3 * greatest(yard, lot)[0])
                    self.assertEqual(least(other, lot)[0], 3 * least(yard, lot)[0])


class Conventions(unittest.TestCase):
    def test_equal_calls_return_equal_results(self):
        dice = random.Random(35)
        for yard in some_yards(35, 60) + [LARGE]:
            again, lot = Yard(yard.text), some_lot(dice, yard)
            self.assertTrue(same(fitting(yard), fitting(again)))
            if fitting(yard)[0] == 'mixing':
                self.assertTrue(same(greatest(yard, lot), greatest(again, lot)))
                self.assertTrue(same(least(yard, lot), least(again, lot)))
                for spot in all_spots(yard)[::5]:
                    self.assertTrue(same(highest(yard, spot), highest(again, spot)))
                    self.assertTrue(same(lowest(yard, spot), lowest(again, spot)))
                one, other = greatest(yard, lot)[1], least(yard, lot)[1]
                self.assertTrue(same(path(yard, one, other), path(again, one, other)))

    def test_yards_do_not_change(self):
        for yard in (YARD, TWO, NONE):
            told = (yard.text, yard.vessels, yard.steps, yard.samples, yard.ends)
            fitting(yard), every(yard), normal(yard), same_steps(yard, YARD), yard.bare()
            yard.with_step(('fill', 'a', 1)), yard.with_sample(('is', 0, ('in', 'a', 1)))
            self.assertEqual(told, (yard.text, yard.vessels, yard.steps, yard.samples, yard.ends))
            self.assertEqual(every(yard), tuple(fitting_ones(yard)))

    def test_lists_that_are_handed_in_do_not_change(self):
        value = [('a', [0]), {'b': 1}]
        for call in (lambda: greatest(YARD, value), lambda: highest(YARD, value), lambda: YARD.with_step(value)):
            with self.assertRaises(ValueError) as found:
                call()
            self.assertIs(found.exception.value, value)
            self.assertEqual(value, [('a', [0]), {'b': 1}])


if __name__ == '__main__':
    unittest.main()
