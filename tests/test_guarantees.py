"""Sections 2 and 3: what holds of all functions together."""

import random
import unittest

from dyedpours.backward import backward, turned_mixing
from dyedpours.differences import alike, difference, fixed, together
from dyedpours.errors import TooMany
from dyedpours.every import every
from dyedpours.exchange import exchanged, joined, may_exchange, normal, parted, same_steps
from dyedpours.grains import path
from dyedpours.heights import greatest_worth, least_worth
from dyedpours.lots import fitting, greatest, highest, least, lowest, ranges
from dyedpours.mixings import dye, eager, shy
from dyedpours.moves import all_spots
from dyedpours.needless import needless, thinned, within
from dyedpours.quarrels import blamed, mended, quarrels
from dyedpours.sources import led, pairs_of, reached, share, sources
from dyedpours.standing import can_stand, standings
from dyedpours.sure import clean, sure, sure_dye
from dyedpours.tables import holders, table
from dyedpours.yards import Yard, yard_of
from tests.helpers import LARGE, NONE, TWO, YARD, fitting_ones, gives, same, some_yards
from tests.test_cuts import some_lot


def end_names(yard):
    """What each end is named by, whatever stands ahead of its step: its vessel, or its step."""
    drawn = [(step, yard.steps[:at].count(step)) for at, step in enumerate(yard.steps) if step[0] == 'draw']
    return list(yard.vessels) + drawn


def told_of_ends(yard, names):
    """The greatest and the least dye of the ends with these names together."""
    lot = tuple(sorted(end_names(yard).index(name) for name in names))
    return greatest(yard, lot)[0], least(yard, lot)[0]


def standings_by_names(yard):
    """All dyes that can stand at last, each as what the ends with their names have; None if there are too many."""
    try:
        told = standings(yard, len(yard))
    except TooMany:
        return None
    return {frozenset(zip(end_names(yard), dyes)) for dyes in told}


def pairs_by_names(yard):
    """How much of each source, as step and how many there are ahead, each end by its name can have at the most."""
    steps = [(step, yard.steps[:at].count(step)) for at, step in enumerate(yard.steps) if step[0] in ('fill', 'dye')]
    return {step: dict(zip(end_names(yard), most)) for step, most in zip(steps, pairs_of(yard))}


class Guarantees(unittest.TestCase):
    def test_b_more_samples(self):
        dice = random.Random(30)
        for yard in some_yards(30, 80):
            for spot in all_spots(yard)[::3]:
                sample = (dice.choice(('is', 'least', 'most')), dice.randint(0, yard.amount(spot)), spot)
                if len(yard.samples) < 6 and sample not in yard.samples and fitting(yard.with_sample(sample))[0] == 'mixing':
                    more = yard.with_sample(sample)
                    for (low, high), (lower, higher) in zip(ranges(more), ranges(yard)):
                        self.assertTrue(lower <= low <= high <= higher)

    def test_b_more_samples_and_what_is_sure(self):
        dice = random.Random(36)
        for yard in some_yards(36, 150):
            rows = fitting_ones(yard)
            if len(rows) < 2 or len(yard.samples) > 5:
                continue
            spot, row = dice.choice(all_spots(yard)), dice.choice(rows)
            sample = (dice.choice(('is', 'least', 'most')), dye(yard, row, spot), spot)
            if sample in yard.samples:
                continue
            more = yard.with_sample(sample)
            self.assertEqual(within(more, yard), ('within',))
            self.assertEqual(sure(more, sample)[0], 'surely')
            self.assertTrue(set(fixed(yard)) <= set(fixed(more)))
            self.assertTrue(set(sure_dye(yard)) <= set(sure_dye(more)))
            self.assertTrue(set(clean(yard)) <= set(clean(more)))
            weights = tuple(dice.randint(-3, 3) for _ in yard.steps)
            self.assertLessEqual(least_worth(yard, weights)[0], least_worth(more, weights)[0])
            self.assertGreaterEqual(greatest_worth(yard, weights)[0], greatest_worth(more, weights)[0])
            for its in all_spots(yard)[::3]:
                claim = (dice.choice(('is', 'least', 'most')), dye(yard, row, its), its)
                told = sure(yard, claim)[0]
                self.assertTrue(told == 'open' or sure(more, claim)[0] == told)
                low, high = difference(yard, its, spot)
                lower, higher = difference(more, its, spot)
                self.assertTrue(low <= lower <= higher <= high)

    def test_b_samples_that_a_mixing_keeps(self):
        for yard in some_yards(31, 60):
            for row in (eager(yard), shy(yard)):
                its = yard.bare()
                for word, spot in list(zip(('is', 'least', 'most') * 2, all_spots(yard)[::-2])):
                    its = its.with_sample((word, dye(yard, row, spot), spot))
                gives(self, 'mixing', lambda: fitting(its)[0])
                gives(self, (), quarrels, its)
                gives(self, ((), ()), lambda: mended(its)[::2])

    def test_c_exchanged_joined_parted(self):
        for yard in some_yards(32, 60):
            bare, others = yard.bare(), [normal(yard)]
            others += [exchanged(yard, at) for at in range(len(yard) - 1) if may_exchange(yard, at)]
            for at, step in enumerate(yard.steps):
                if step[0] != 'draw' and step[-1] > 1:
                    others.append(parted(yard, at, step[-1] // 2))
                    gives(self, bare, joined, others[-1], at)
            for other in others:
                for name in end_names(bare):
                    self.assertEqual(told_of_ends(bare, [name]), told_of_ends(other, [name]))
                some = end_names(bare)[::2]
                self.assertEqual(told_of_ends(bare, some), told_of_ends(other, some))
                self.assertEqual(standings_by_names(bare), standings_by_names(other))

    def test_c_where_grain_comes_from(self):
        for yard in some_yards(37, 60):
            for at in range(len(yard) - 1):
                if may_exchange(yard, at):
                    self.assertEqual(pairs_by_names(yard), pairs_by_names(exchanged(yard, at)))

    def test_d_other_names_in_another_sequence(self):
        names = {'a': 'fill', 'b': 'zz', 'c': 'in', 'zz': 'a', 'by': 'is', 'fill': 'by'}
        for yard in some_yards(33, 80):
            vessels = [names[vessel] for vessel in yard.vessels]
            steps = [(step[0], *[names[its] for its in step[1:-1]], step[-1]) for step in yard.steps]
            renamed = {spot: (*spot[:1], names[spot[1]], spot[2]) if spot[0] == 'in' else spot for spot in all_spots(yard)}
            samples = [(word, number, renamed[spot]) for word, number, spot in yard.samples]
            other = yard_of(vessels[::-1], steps, samples)
            self.assertEqual(fitting(other)[0] == 'mixing', fitting(yard)[0] == 'mixing')
            if fitting(yard)[0] == 'mixing':
                told, its = dict(zip(all_spots(other), ranges(other))), dict(zip(all_spots(yard), ranges(yard)))
                self.assertEqual({renamed[spot]: its[spot] for spot in its}, told)
                self.assertEqual(dict(fixed(other)), {renamed[spot]: number for spot, number in fixed(yard)})
                self.assertEqual(set(sure_dye(other)), {renamed[spot] for spot in sure_dye(yard)})
                self.assertEqual(set(clean(other)), {renamed[spot] for spot in clean(yard)})
                weights = tuple(range(-2, len(yard) - 2))
                self.assertEqual(least_worth(other, weights)[0], least_worth(yard, weights)[0])
                self.assertEqual((needless(other), thinned(other)), (needless(yard), thinned(yard)))
            self.assertEqual((quarrels(other), blamed(other)), (quarrels(yard), blamed(yard)))
            self.assertEqual(mended(other)[0], mended(yard)[0])
            turned = list(range(len(yard.vessels)))[::-1] + list(range(len(yard.vessels), len(yard.ends)))
            self.assertEqual([[most[end] for end in turned] for most in pairs_of(other)], [list(its) for its in pairs_of(yard)])
            self.assertEqual(sorted(table(other, len(yard))), sorted(table(yard, len(yard))))

    def test_e_so_many_times(self):
        for yard in some_yards(34, 60):
            steps = [step[:-1] + (3 * step[-1],) for step in yard.steps]
            if max([step[-1] for step in steps], default=0) <= 99:
                other = yard_of(yard.vessels, steps, [(word, 3 * number, spot) for word, number, spot in yard.samples])
                self.assertEqual(fitting(other)[0] == 'mixing', fitting(yard)[0] == 'mixing')
                if fitting(yard)[0] == 'mixing':
                    self.assertEqual(ranges(other), tuple((3 * low, 3 * high) for low, high in ranges(yard)))
                    lot = tuple(range(len(yard.ends)))[::2]
                    self.assertEqual(greatest(other, lot)[0], 3 * greatest(yard, lot)[0])
                    self.assertEqual(least(other, lot)[0], 3 * least(yard, lot)[0])
                    weights = tuple(range(-2, len(yard) - 2))
                    self.assertEqual(least_worth(other, weights)[0], 3 * least_worth(yard, weights)[0])
                    self.assertEqual(greatest_worth(other, weights)[0], 3 * greatest_worth(yard, weights)[0])
                    some = all_spots(yard)[-12:]
                    if some:
                        self.assertEqual(together(other, some), tuple(3 * number for number in together(yard, some)))
                self.assertEqual(table(other, len(yard)), tuple(3 * most for most in table(yard, len(yard))))
                self.assertEqual(pairs_of(other), tuple(tuple(3 * most for most in its) for its in pairs_of(yard)))
                self.assertEqual(quarrels(other), quarrels(yard))


class Conventions(unittest.TestCase):
    def test_equal_calls_return_equal_results(self):
        dice = random.Random(35)
        for yard in some_yards(35, 60) + [LARGE]:
            again, lot = Yard(yard.text), some_lot(dice, yard)
            self.assertTrue(same(fitting(yard), fitting(again)))
            if fitting(yard)[0] == 'mixing':
                self.assertTrue(same(greatest(yard, lot), greatest(again, lot)))
                self.assertTrue(same(least(yard, lot), least(again, lot)))
                for spot in all_spots(yard)[::5]:
                    self.assertTrue(same(highest(yard, spot), highest(again, spot)))
                    self.assertTrue(same(lowest(yard, spot), lowest(again, spot)))
                one, other = greatest(yard, lot)[1], least(yard, lot)[1]
                self.assertTrue(same(path(yard, one, other), path(again, one, other)))

    def test_equal_calls_of_the_later_parts(self):
        dice = random.Random(38)
        for yard in some_yards(38, 80) + [LARGE]:
            again, lot, moment = Yard(yard.text), some_lot(dice, yard), dice.randint(0, len(yard))
            marks = tuple(at for at, step in enumerate(yard.steps) if step[0] in ('fill', 'dye'))[::2]
            dyes = (1,) + (0,) * (len(holders(yard, moment)) - 1)
            calls = [
                (holders, moment), (table, moment), (can_stand, moment, dyes), (quarrels,), (mended,), (blamed,),
                (pairs_of,), (share, marks, lot), (sources, 0),
            ]
            calls += [(reached, number) for number in marks] + [(led, number, 0) for number in marks]
            if len(yard) < 8:
                calls += [(backward, lot), (turned_mixing, lot, (), tuple(0 for _ in yard.steps))]
            if fitting(yard)[0] == 'mixing':
                weights = tuple(dice.randint(-5, 5) for _ in yard.steps)
                calls += [
                    (least_worth, weights), (greatest_worth, weights), (fixed,), (sure_dye,), (clean,), (needless,),
                    (thinned,), (within, yard.bare()),
                ]
                for spot in all_spots(yard)[::5]:
                    calls += [(sure, ('is', 1, spot)), (alike, spot, ('by', 0)), (difference, spot, ('by', 0))]
            for call, *told in calls:
                self.assertTrue(same(call(yard, *told), call(again, *told)), (yard.text, call, told))

    def test_yards_do_not_change(self):
        for yard in (YARD, TWO, NONE):
            told = (yard.text, yard.vessels, yard.steps, yard.samples, yard.ends)
            fitting(yard), every(yard), normal(yard), same_steps(yard, YARD), yard.bare()
            yard.with_step(('fill', 'a', 1)), yard.with_sample(('is', 0, ('in', 'a', 1)))
            self.assertEqual(told, (yard.text, yard.vessels, yard.steps, yard.samples, yard.ends))
            self.assertEqual(every(yard), tuple(fitting_ones(yard)))

    def test_lists_that_are_handed_in_do_not_change(self):
        value = [('a', [0]), {'b': 1}]
        for call in (lambda: greatest(YARD, value), lambda: highest(YARD, value), lambda: YARD.with_step(value)):
            with self.assertRaises(ValueError) as found:
                call()
            self.assertIs(found.exception.value, value)
            self.assertEqual(value, [('a', [0]), {'b': 1}])


if __name__ == '__main__':
    unittest.main()
