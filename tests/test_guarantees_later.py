"""Sections 2 and 3: what holds of the parts from the seventh on, and of several parts together."""

import random
import unittest

from dyedpours.asking import asks, wanted
from dyedpours.exchange import exchanged, joined, may_exchange, normal, parted
from dyedpours.leaks import leak, least_caught, others_of, safe, sure_ends, waste, worst
from dyedpours.lots import fitting
from dyedpours.mixings import dye
from dyedpours.moves import all_spots
from dyedpours.questions import known, left_by, tellers, tells
from dyedpours.recalls import cheapest_lot, fewest, holding, holds, vital
from dyedpours.rounds import again, turns, until
from dyedpours.yards import Yard, yard_of
from tests.helpers import LARGE, NONE, YARD, fitting_ones, lot_dye, lots_of, same, some_yards
from tests.test_cuts import some_lot
from tests.test_guarantees import end_names
from tests.test_leaks import rest
from tests.test_questions import answers_of, some_question
from tests.test_rounds import some_block


def lot_of(yard, names):
    """The lot of the ends with these names."""
    return tuple(sorted(end_names(yard).index(name) for name in names))


def by_names(yard, lots):
    """These lots, each as the names of its ends."""
    return {frozenset(end_names(yard)[number] for number in lot) for lot in lots}


def renamed_yard(yard, names):
    """The yard with other names, all vessels in the reverse sequence."""
    steps = [(step[0], *[names[its] for its in step[1:-1]], step[-1]) for step in yard.steps]
    samples = [(word, number, renamed_spot(spot, names)) for word, number, spot in yard.samples]
    return yard_of([names[vessel] for vessel in yard.vessels][::-1], steps, samples)


def renamed_spot(spot, names):
    """A spot, its vessel by its other name."""
    return ('in', names[spot[1]], spot[2]) if spot[0] == 'in' else spot


def renamed_block(block, names):
    """A block, its vessels by their other names."""
    lines = [line.split(' ') for line in block.split('\n')]
    return '\n'.join(' '.join([words[0]] + [names[word] for word in words[1:-1]] + words[-1:]) for words in lines)


def times(yard, many):
    """The yard with all amounts and all numbers of samples so many times as great; None if there is none."""
    steps = [step[:-1] + (many * step[-1],) for step in yard.steps]
    if max([step[-1] for step in steps], default=0) > 99:
        return None
    return yard_of(yard.vessels, steps, [(word, many * number, spot) for word, number, spot in yard.samples])


def turned_lot(yard, lot):
    """The lot of the same ends of the yard with its vessels in the reverse sequence."""
    many = len(yard.vessels)
    return tuple(sorted(many - 1 - number if number < many else number for number in lot))


NAMES = {'a': 'fill', 'b': 'zz', 'c': 'in', 'zz': 'a', 'by': 'is', 'fill': 'by'}


class Guarantees(unittest.TestCase):
    def test_a_all_mixings(self):
        dice = random.Random(200)
        for yard in some_yards(200, 150):
            rows = fitting_ones(yard)
            if not rows:
                continue
            lot, most = some_lot(dice, yard), dice.randint(0, 4)
            limits = leak(yard, lot), least_caught(yard, lot)
            lots, (first, _, bars) = holding(yard, most), fewest(yard, most)
            for row in rows:
                self.assertLessEqual(lot_dye(yard, row, rest(yard, lot)), limits[0])
                self.assertGreaterEqual(lot_dye(yard, row, lot), limits[1])
                self.assertTrue(all(lot_dye(yard, row, rest(yard, its)) <= most for its in lots + (first,)))
            self.assertTrue(all(row in rows for _, row in bars))

    def test_b_more_samples(self):
        dice, met = random.Random(201), 0
        for yard in some_yards(201, 200):
            rows = fitting_ones(yard)
            if len(rows) < 2 or len(yard.samples) > 5:
                continue
            spot, row, lot = dice.choice(all_spots(yard)), dice.choice(rows), some_lot(dice, yard)
            sample = (dice.choice(('is', 'least', 'most')), dye(yard, row, spot), spot)
            if sample in yard.samples:
                continue
            met += 1
            more = yard.with_sample(sample)
            self.assertLessEqual(leak(more, lot), leak(yard, lot))
            self.assertGreaterEqual(least_caught(more, lot), least_caught(yard, lot))
            self.assertLessEqual(waste(more, lot), waste(yard, lot))
            self.assertTrue(set(safe(yard)) <= set(safe(more)))
            self.assertTrue(set(sure_ends(yard)) <= set(sure_ends(more)))
            self.assertTrue(all(one >= other for one, other in zip(worst(yard), worst(more))))
            for most in (0, 2):
                self.assertTrue(set(vital(more, most)) <= set(vital(yard, most)))
                self.assertTrue(holds(yard, lot, most)[0] == 'leaks' or holds(more, lot, most)[0] == 'holds')
                self.assertLessEqual(len(fewest(more, most)[0]), len(fewest(yard, most)[0]))
            question, aim = some_question(dice, yard, rows), some_question(dice, yard, rows)
            self.assertIn(known(more, question), {known(yard, question), answers_of(yard, row, question)})
            self.assertTrue(known(yard, question) in (None, known(more, question)))
            self.assertTrue(set(tellers(yard, aim)) <= set(tellers(more, aim)))
            told = asks(yard, (question,), aim)
            self.assertTrue(told[0] == 'open' or asks(more, (question,), aim)[1] <= told[1])
        self.assertGreater(met, 60)

    def test_c_exchanged_joined_parted(self):
        for yard in some_yards(202, 80):
            bare, others = yard.bare(), [normal(yard)]
            others += [exchanged(yard, at) for at in range(len(yard) - 1) if may_exchange(yard, at)]
            for at, step in enumerate(yard.steps):
                if step[0] != 'draw' and step[-1] > 1:
                    others.append(parted(yard, at, step[-1] // 2))
                    self.assertEqual(joined(others[-1], at), bare)
            names = end_names(bare)[::2]
            for other in others:
                for call in (leak, least_caught, waste):
                    self.assertEqual(call(bare, lot_of(bare, names)), call(other, lot_of(other, names)))
                for most in (0, 1, 3):
                    self.assertEqual(by_names(bare, holding(bare, most)), by_names(other, holding(other, most)))
                for call in (safe, sure_ends):
                    self.assertEqual(by_names(bare, [call(bare)]), by_names(other, [call(other)]))

    def test_c_rounds(self):
        dice = random.Random(203)
        for yard in some_yards(203, 80):
            block = some_block(dice, yard)
            for at in range(len(yard) - 1) if block else ():
                if may_exchange(yard, at):
                    other = exchanged(yard, at)
                    self.assertEqual(turns(yard, block), turns(other, block))
                    self.assertEqual(again(yard, block, 3), again(other, block, 3))

    def test_d_other_names_in_another_sequence(self):
        dice = random.Random(204)
        for yard in some_yards(204, 120):
            other, lot = renamed_yard(yard, NAMES), some_lot(dice, yard)
            rows = fitting_ones(yard)
            if rows:
                its = turned_lot(yard, lot)
                for call in (leak, least_caught, waste):
                    self.assertEqual(call(yard, lot), call(other, its))
                self.assertEqual(others_of(other, its), turned_lot(yard, others_of(yard, lot)))
                for call in (safe, sure_ends):
                    self.assertEqual(call(other), turned_lot(yard, call(yard)))
                lots = {turned_lot(yard, held) for held in holding(yard, 2)}
                self.assertEqual(set(holding(other, 2)), lots)
                prices = tuple(dice.randint(1, 3) for _ in yard.ends)
                many = len(yard.vessels)
                turned = prices[:many][::-1] + prices[many:]
                self.assertEqual(cheapest_lot(yard, prices, 2)[0], cheapest_lot(other, turned, 2)[0])
            if rows and len(yard):
                spot, number = some_question(dice, yard, rows)
                question = (renamed_spot(spot, NAMES), number)
                self.assertEqual(known(yard, (spot, number)), known(other, question))
                found = {renamed_spot(teller, NAMES) for teller in tellers(yard, (spot, number))}
                self.assertEqual(set(tellers(other, question)), found)

    def test_d_rounds(self):
        dice = random.Random(205)
        for yard in some_yards(205, 120):
            block = some_block(dice, yard)
            if block:
                other, its = renamed_yard(yard, NAMES), renamed_block(block, NAMES)
                self.assertEqual(turns(yard, block), turns(other, its))
                lots = lots_of(len(yard.vessels))
                told, found = again(yard, block, 2), again(other, its, 2)
                for lot, most in zip(lots, told):
                    self.assertEqual(found[lots.index(turned_lot(yard, lot))], most)
                    self.assertEqual(until(yard, block, lot, 2), until(other, its, turned_lot(yard, lot), 2))

    def test_e_so_many_times(self):
        dice = random.Random(206)
        for yard in some_yards(206, 120):
            other, lot = times(yard, 4), some_lot(dice, yard)
            if other is None:
                continue
            if fitting(yard)[0] == 'mixing':
                for call in (leak, least_caught, waste):
                    self.assertEqual(call(other, lot), 4 * call(yard, lot))
                self.assertEqual(worst(other), tuple(4 * most for most in worst(yard)))
                self.assertEqual((safe(other), sure_ends(other)), (safe(yard), sure_ends(yard)))
                self.assertEqual(holding(other, 4), holding(yard, 1))
                self.assertEqual(fewest(other, 8)[0], fewest(yard, 2)[0])
            block = some_block(dice, yard)
            if block:
                lines = [line.rpartition(' ') for line in block.split('\n')]
                its = '\n'.join('%s %d' % (ahead, 4 * int(amount)) for ahead, _, amount in lines)
                self.assertEqual(again(other, its, 5), tuple(4 * most for most in again(yard, block, 5)))
                self.assertEqual(turns(other, its), turns(yard, block))


class Conventions(unittest.TestCase):
    def test_equal_calls_return_equal_results(self):
        dice = random.Random(207)
        for yard in some_yards(207, 60) + [LARGE, NONE]:
            twin, lot, rows = Yard(yard.text), some_lot(dice, yard), ()
            calls = [(others_of, lot), (left_by, ())]
            if fitting(yard)[0] == 'mixing':
                prices = tuple(dice.randint(1, 99) for _ in yard.ends)
                calls += [(leak, lot), (holds, lot, 2), (holding, 2), (fewest, 2), (cheapest_lot, prices, 2), (worst,)]
                rows = [fitting(yard)[1]]
            if rows and len(yard):
                question, aim = some_question(dice, yard, rows), some_question(dice, yard, rows)
                spot = dice.choice(all_spots(yard))
                calls += [
                    (tells, spot, aim), (tellers, aim), (asks, (question,), aim), (wanted, (question,), aim),
                    (left_by, ((question, True), ((aim[0], aim[1]), False))) if question != aim else (known, aim),
                ]
            block = some_block(dice, yard) if yard is not LARGE else None
            calls += [(again, block, 10 ** 8), (turns, block), (until, block, (), 0)] if block else []
            for call, *told in calls:
                self.assertTrue(same(call(yard, *told), call(twin, *told)), (yard.text, call, told))

    def test_yards_do_not_change(self):
        told = (YARD.text, YARD.steps, YARD.samples, YARD.ends)
        left_by(YARD, (((('by', 2), 2), True),)), tellers(YARD, (('by', 2), 2)), asks(YARD, (), (('by', 1), 1))
        self.assertEqual(told, (YARD.text, YARD.steps, YARD.samples, YARD.ends))


if __name__ == '__main__':
    unittest.main()
