"""Sections 2 and 3: what holds of the parts from the seventh on, and of several parts together."""

import random
import unittest

from dyedpours.asking import asks, wanted
from dyedpours.beside import even, harmless, less_than, outcome
from dyedpours.changing import by_choice, cheapest
from dyedpours.desk import Desk
from dyedpours.differences import difference
from dyedpours.errors import PourError
from dyedpours.exchange import exchanged, joined, may_exchange, normal, parted
from dyedpours.heights import greatest_worth, least_worth
from dyedpours.journals import journal, read_journal
from dyedpours.leaks import leak, least_caught, others_of, safe, sure_ends, waste, worst
from dyedpours.lots import fitting, greatest, least, ranges
from dyedpours.mixings import dye
from dyedpours.moves import all_spots
from dyedpours.questions import known, left_by, tellers, tells
from dyedpours.recalls import cheapest_lot, fewest, holding, holds, vital
from dyedpours.rounds import again, turns, until
from dyedpours.sure import sure
from dyedpours.tables import table
from dyedpours.wharves import Wharf
from dyedpours.yards import Yard, yard_of
from tests.helpers import (
    LARGE, NONE, YARD, all_mixings, fitting_ones, gives, lot_dye, lots_of, same, some_yards, spot_dye,
)
from tests.test_beside import like_ones
from tests.test_changing import offers_of, wishes_of
from tests.test_cuts import some_lot
from tests.test_guarantees import end_names
from tests.test_leaks import rest
from tests.test_questions import answers_of, some_question
from tests.test_rounds import some_block
from tests.test_wharves import do, told_of, wharf_by, wharf_of, yard_by


def lot_of(yard, names):
    """The lot of the ends with these names."""
    return tuple(sorted(end_names(yard).index(name) for name in names))


def by_names(yard, lots):
    """These lots, each as the names of its ends."""
    return {frozenset(end_names(yard)[number] for number in lot) for lot in lots}


def renamed_yard(yard, names):
    """The yard with other names, all vessels in the reverse sequence."""
    steps = [(step[0], *[names[its] for its in step[1:-1]], step[-1]) for step in yard.steps]
    samples = [(word, number, renamed_spot(spot, names)) for word, number, spot in yard.samples]
    return yard_of([names[vessel] for vessel in yard.vessels][::-1], steps, samples)


def renamed_spot(spot, names):
    """A spot, its vessel by its other name."""
    return ('in', names[spot[1]], spot[2]) if spot[0] == 'in' else spot


def renamed_block(block, names):
    """A block, its vessels by their other names."""
    lines = [line.split(' ') for line in block.split('\n')]
    return '\n'.join(' '.join([words[0]] + [names[word] for word in words[1:-1]] + words[-1:]) for words in lines)


def times(yard, many):
    """The yard with all amounts and all numbers of samples so many times as great; None if there is none."""
    steps = [step[:-1] + (many * step[-1],) for step in yard.steps]
    if max([step[-1] for step in steps], default=0) > 99:
        return None
    return yard_of(yard.vessels, steps, [(word, many * number, spot) for word, number, spot in yard.samples])


def turned_lot(yard, lot):
    """The lot of the same ends of the yard with its vessels in the reverse sequence."""
    many = len(yard.vessels)
    return tuple(sorted(many - 1 - number if number < many else number for number in lot))


NAMES = {'a': 'fill', 'b': 'zz', 'c': 'in', 'zz': 'a', 'by': 'is', 'fill': 'by'}


class Guarantees(unittest.TestCase):
    def test_a_all_mixings(self):
        dice = random.Random(200)
        for yard in some_yards(200, 150):
            rows = fitting_ones(yard)
            if not rows:
                continue
            lot, most = some_lot(dice, yard), dice.randint(0, 4)
            limits = leak(yard, lot), least_caught(yard, lot)
            lots, (first, _, bars) = holding(yard, most), fewest(yard, most)
            for row in rows:
                self.assertLessEqual(lot_dye(yard, row, rest(yard, lot)), limits[0])
                self.assertGreaterEqual(lot_dye(yard, row, lot), limits[1])
                self.assertTrue(all(lot_dye(yard, row, rest(yard, its)) <= most for its in lots + (first,)))
            self.assertTrue(all(row in rows for _, row in bars))

    def test_a_what_can_be_comes_with_a_mixing(self):
        dice = random.Random(208)
        for yard in some_yards(208, 100):
            rows, lot = fitting_ones(yard), some_lot(dice, yard)
            self.assertEqual(fitting(yard)[0] == 'mixing', bool(rows))
            if not rows or not len(yard):
                continue
            spot = dice.choice(all_spots(yard))
            weights = tuple(dice.randint(-3, 3) for _ in yard.steps)
            for number, row, _ in (greatest(yard, lot), least(yard, lot)):
                self.assertTrue(row in rows and number == lot_dye(yard, row, lot))
            for number, row, _ in (greatest_worth(yard, weights), least_worth(yard, weights)):
                self.assertTrue(row in rows and number == sum(much * weight for much, weight in zip(row, weights)))
            told = sure(yard, ('least', 1, spot))
            its = wharf_by(yard)
            for row in rows:
                much = spot_dye(yard, row, spot)
                self.assertTrue(its.least(spot) <= much <= its.most(spot))
                self.assertTrue(told[0] == 'open' or (much >= 1) == (told[0] == 'surely'))
                low, high = difference(yard, spot, ('by', 0))
                self.assertTrue(low <= much - row[0] <= high)
            for row in all_mixings(yard):
                dyes = outcome(yard, row)
                self.assertTrue(all(
                    sum(dyes[end] for end in lot) <= most for lot, most in zip(lots_of(len(dyes)), table(yard, len(yard)))
                ))

    def test_b_more_samples(self):
        dice, met = random.Random(201), 0
        for yard in some_yards(201, 200):
            rows = fitting_ones(yard)
            if len(rows) < 2 or len(yard.samples) > 5:
                continue
            spot, row, lot = dice.choice(all_spots(yard)), dice.choice(rows), some_lot(dice, yard)
            sample = (dice.choice(('is', 'least', 'most')), dye(yard, row, spot), spot)
            if sample in yard.samples:
                continue
            met += 1
            more = yard.with_sample(sample)
            self.assertLessEqual(leak(more, lot), leak(yard, lot))
            self.assertGreaterEqual(least_caught(more, lot), least_caught(yard, lot))
            self.assertLessEqual(waste(more, lot), waste(yard, lot))
            self.assertTrue(set(safe(yard)) <= set(safe(more)))
            self.assertTrue(set(sure_ends(yard)) <= set(sure_ends(more)))
            self.assertTrue(all(one >= other for one, other in zip(worst(yard), worst(more))))
            for most in (0, 2):
                self.assertTrue(set(vital(more, most)) <= set(vital(yard, most)))
                self.assertTrue(holds(yard, lot, most)[0] == 'leaks' or holds(more, lot, most)[0] == 'holds')
                self.assertLessEqual(len(fewest(more, most)[0]), len(fewest(yard, most)[0]))
            wharf, its = wharf_by(yard), wharf_by(yard)
            its.sample(*sample)
            for vessel in yard.vessels:
                low, high = wharf.now(vessel)
                self.assertTrue(low <= its.now(vessel)[0] <= its.now(vessel)[1] <= high)
            self.assertTrue(wharf.least(spot) <= its.least(spot) <= its.most(spot) <= wharf.most(spot))
            question, aim = some_question(dice, yard, rows), some_question(dice, yard, rows)
            self.assertIn(known(more, question), {known(yard, question), answers_of(yard, row, question)})
            self.assertTrue(known(yard, question) in (None, known(more, question)))
            self.assertTrue(set(tellers(yard, aim)) <= set(tellers(more, aim)))
            told = asks(yard, (question,), aim)
            self.assertTrue(told[0] == 'open' or asks(more, (question,), aim)[1] <= told[1])
        self.assertGreater(met, 60)

    def test_c_exchanged_joined_parted(self):
        for yard in some_yards(202, 80):
            bare, others = yard.bare(), [normal(yard)]
            others += [exchanged(yard, at) for at in range(len(yard) - 1) if may_exchange(yard, at)]
            for at, step in enumerate(yard.steps):
                if step[0] != 'draw' and step[-1] > 1:
                    others.append(parted(yard, at, step[-1] // 2))
                    self.assertEqual(joined(others[-1], at), bare)
            names = end_names(bare)[::2]
            for other in others:
                for call in (leak, least_caught, waste):
                    self.assertEqual(call(bare, lot_of(bare, names)), call(other, lot_of(other, names)))
                for most in (0, 1, 3):
                    self.assertEqual(by_names(bare, holding(bare, most)), by_names(other, holding(other, most)))
                for call in (safe, sure_ends):
                    self.assertEqual(by_names(bare, [call(bare)]), by_names(other, [call(other)]))

    def test_c_yards_beside_one_another(self):
        dice = random.Random(209)
        for yard in some_yards(209, 100):
            bare = yard.bare()
            for at in range(len(yard) - 1):
                no_draws = 'draw' not in (yard.steps[at][0], yard.steps[at + 1][0])
                if may_exchange(yard, at) and no_draws:
                    self.assertEqual(even(yard, exchanged(yard, at)), ('alike',))
                    self.assertIn(at, harmless(yard))
            for at, step in enumerate(yard.steps):
                if step[0] != 'draw' and step[-1] > 1:
                    self.assertEqual(even(parted(yard, at, 1), bare), ('alike',))
                    for other in like_ones(dice, bare, 1):
                        self.assertEqual(less_than(parted(yard, at, 1), other)[0], less_than(bare, other)[0])

    def test_c_rounds(self):
        dice = random.Random(203)
        for yard in some_yards(203, 80):
            block = some_block(dice, yard)
            for at in range(len(yard) - 1) if block else ():
                if may_exchange(yard, at):
                    other = exchanged(yard, at)
                    self.assertEqual(turns(yard, block), turns(other, block))
                    self.assertEqual(again(yard, block, 3), again(other, block, 3))

    def test_d_other_names_in_another_sequence(self):
        dice = random.Random(204)
        for yard in some_yards(204, 120):
            other, lot = renamed_yard(yard, NAMES), some_lot(dice, yard)
            rows = fitting_ones(yard)
            if rows:
                its = turned_lot(yard, lot)
                for call in (leak, least_caught, waste):
                    self.assertEqual(call(yard, lot), call(other, its))
                self.assertEqual(others_of(other, its), turned_lot(yard, others_of(yard, lot)))
                for call in (safe, sure_ends):
                    self.assertEqual(call(other), turned_lot(yard, call(yard)))
                lots = {turned_lot(yard, held) for held in holding(yard, 2)}
                self.assertEqual(set(holding(other, 2)), lots)
                prices = tuple(dice.randint(1, 3) for _ in yard.ends)
                many = len(yard.vessels)
                turned = prices[:many][::-1] + prices[many:]
                self.assertEqual(cheapest_lot(yard, prices, 2)[0], cheapest_lot(other, turned, 2)[0])
            if rows and len(yard):
                spot, number = some_question(dice, yard, rows)
                question = (renamed_spot(spot, NAMES), number)
                self.assertEqual(known(yard, (spot, number)), known(other, question))
                found = {renamed_spot(teller, NAMES) for teller in tellers(yard, (spot, number))}
                self.assertEqual(set(tellers(other, question)), found)

    def test_d_yards_beside_one_another_and_wharves(self):
        dice = random.Random(214)
        for yard in some_yards(214, 120):
            other = renamed_yard(yard, NAMES)
            gives(self, harmless(yard), harmless, other)
            for its in like_ones(dice, yard, 2):
                self.assertEqual(even(yard, its)[0], even(other, renamed_yard(its, NAMES))[0])
                self.assertEqual(less_than(its, yard)[0], less_than(renamed_yard(its, NAMES), other)[0])
            offers, wishes = offers_of(dice, yard), wishes_of(dice, yard)
            if offers:
                turned = tuple((word, turned_lot(yard, lot), number) for word, lot, number in wishes)
                told, found = cheapest(yard, offers, wishes), cheapest(other, offers, turned)
                self.assertEqual(told[:-2], found[:-2])
                self.assertEqual([its[0] for its in told[-1]], [its[0] for its in found[-1]])
            if fitting(yard)[0] == 'mixing':
                one, twin = wharf_by(yard), wharf_by(other)
                for vessel in yard.vessels:
                    self.assertEqual(one.now(vessel), twin.now(NAMES[vessel]))
                for spot in all_spots(yard)[::4]:
                    self.assertEqual(one.most(spot), twin.most(renamed_spot(spot, NAMES)))
                    self.assertEqual(one.least(spot), twin.least(renamed_spot(spot, NAMES)))

    def test_d_rounds(self):
        dice = random.Random(205)
        for yard in some_yards(205, 120):
            block = some_block(dice, yard)
            if block:
                other, its = renamed_yard(yard, NAMES), renamed_block(block, NAMES)
                self.assertEqual(turns(yard, block), turns(other, its))
                lots = lots_of(len(yard.vessels))
                told, found = again(yard, block, 2), again(other, its, 2)
                for lot, most in zip(lots, told):
                    self.assertEqual(found[lots.index(turned_lot(yard, lot))], most)
                    self.assertEqual(until(yard, block, lot, 2), until(other, its, turned_lot(yard, lot), 2))

    def test_e_so_many_times(self):
        dice = random.Random(206)
        for yard in some_yards(206, 120):
            other, lot = times(yard, 4), some_lot(dice, yard)
            if other is None:
                continue
            if fitting(yard)[0] == 'mixing':
                for call in (leak, least_caught, waste):
                    self.assertEqual(call(other, lot), 4 * call(yard, lot))
                self.assertEqual(worst(other), tuple(4 * most for most in worst(yard)))
                self.assertEqual((safe(other), sure_ends(other)), (safe(yard), sure_ends(yard)))
                self.assertEqual(holding(other, 4), holding(yard, 1))
                self.assertEqual(fewest(other, 8)[0], fewest(yard, 2)[0])
            block = some_block(dice, yard)
            if block:
                lines = [line.rpartition(' ') for line in block.split('\n')]
                its = '\n'.join('%s %d' % (ahead, 4 * int(amount)) for ahead, _, amount in lines)
                self.assertEqual(again(other, its, 5), tuple(4 * most for most in again(yard, block, 5)))
                self.assertEqual(turns(other, its), turns(yard, block))

    def test_e_yards_beside_one_another_and_wharves(self):
        dice = random.Random(215)
        for yard in some_yards(215, 120):
            other = times(yard, 3)
            if other is None:
                continue
            for its in like_ones(dice, yard, 2):
                told = less_than(yard, its)
                found = less_than(other, times(its, 3)) if max(step[-1] for step in its.steps) < 34 else told
                self.assertEqual(found[0], told[0])
                if told[0] == 'all' and found != told:
                    self.assertEqual(found[1:], (3 * told[1], 3 * told[2]))
            offers, wishes = offers_of(dice, yard), wishes_of(dice, yard)
            if offers:
                wider = tuple(offer[:2] + (3 * offer[2],) + offer[3:] if offer[0] == 'amount' else offer for offer in offers)
                larger = tuple((word, lot, 3 * number) for word, lot, number in wishes)
                self.assertEqual(cheapest(other, wider, larger)[:-2], cheapest(yard, offers, wishes)[:-2])
                self.assertEqual(by_choice(other, wider, ()), other.bare())
            if fitting(yard)[0] == 'mixing':
                one, twin = wharf_by(yard), wharf_by(other)
                for vessel in yard.vessels:
                    self.assertEqual(twin.now(vessel), tuple(3 * number for number in one.now(vessel)))


class Live(unittest.TestCase):
    """Guarantee (f)."""

    def some_deed(self, dice, wharf):
        """Do some deed, undo or redo something, or be refused."""
        one, other = dice.choice(wharf.vessels), dice.choice(wharf.vessels)
        kind = dice.choice(('fill', 'dye', 'pour', 'pour', 'draw', 'sample', 'sample', 'undo', 'redo'))
        if kind in ('fill', 'dye', 'draw'):
            do(wharf, (kind, one, dice.randint(1, 5)))
        elif kind == 'pour':
            do(wharf, (kind, one, other, dice.randint(1, 5)))
        elif kind == 'sample':
            spots = all_spots(wharf.yard) or [None]
            do(wharf, (dice.choice(('is', 'least', 'most')), dice.randint(0, 4), dice.choice(spots)))
        else:
            getattr(wharf, kind)()

    def some_deeds(self, dice, wharf, many):
        """Try to do so many deeds."""
        for _ in range(many):
            ahead = told_of(wharf)
            try:
                self.some_deed(dice, wharf)
            except PourError:
                self.assertEqual(told_of(wharf), ahead)

    def is_as_its_deeds(self, wharf):
        """The wharf tells what its deeds led to, whatever else was done, and is read back."""
        self.assertEqual(wharf.yard, yard_by(wharf.vessels, wharf.deeds))
        self.assertEqual((wharf.done, len(wharf)), (len(wharf.deeds), len(wharf.yard)))
        text = journal(wharf)
        self.assertLess(len(text), 4000)
        found = read_journal(text)
        self.assertEqual(found, wharf)
        self.assertEqual(found, wharf_of(wharf.vessels, wharf.deeds))
        told = ranges(wharf.yard)
        for (low, high), spot in list(zip(told, all_spots(wharf.yard)))[::7]:
            self.assertEqual((found.least(spot), found.most(spot)), (low, high))
            self.assertEqual((wharf.least(spot), wharf.most(spot)), (low, high))
        for vessel in wharf.vessels:
            low, high = wharf.now(vessel)
            self.assertEqual(Desk(text).say('now ' + vessel), '%d %d' % (low, high))
            if len(wharf):
                self.assertEqual((low, high), told[all_spots(wharf.yard).index(('in', vessel, len(wharf)))])

    def test_f_what_deeds_led_to(self):
        dice = random.Random(216)
        for _ in range(25):
            wharf = Wharf(tuple(dice.sample(('a', 'b', 'sample', 'by', 'in'), dice.randint(1, 4))))
            for _ in range(4):
                self.some_deeds(dice, wharf, 8)
                self.is_as_its_deeds(wharf)

    def test_f_trials_that_are_not_kept_leave_nothing(self):
        dice, met = random.Random(217), []
        for _ in range(40):
            wharf = Wharf(('a', 'b'))
            self.some_deeds(dice, wharf, 12)
            self.block(dice, wharf, 3, met)
            self.is_as_its_deeds(wharf)
        self.assertGreater(min(met.count(True), met.count(False)), 30)

    def block(self, dice, wharf, deep, met):
        """A block, with others in it, perhaps kept, perhaps left by an error."""
        ahead, kept, fails = told_of(wharf), dice.random() < 0.5, dice.random() < 0.3
        try:
            with wharf.trial():
                self.some_deeds(dice, wharf, 3)
                if kept:
                    wharf.keep()
                for _ in range(dice.randint(0, deep)):
                    self.block(dice, wharf, deep - 1, met)
                self.some_deeds(dice, wharf, 3)
                behind = told_of(wharf)
                if fails:
                    raise KeyError(0)
        except KeyError:
            pass
        met.append(kept and not fails)
        self.assertEqual(told_of(wharf), behind if kept and not fails else ahead)

    def test_f_journals_of_the_longest_names(self):
        wharf = Wharf(tuple(letter * 8 for letter in 'abcdef'))
        for vessel in wharf.vessels[:5]:
            wharf.fill(vessel, 99)
        for vessel in wharf.vessels[1:5]:
            wharf.pour('aaaaaaaa', vessel, 10)
        for vessel in wharf.vessels[1:4]:
            wharf.draw(vessel, 99)
        for number in range(6):
            wharf.sample('least' if number == 0 else 'most', 0 if number == 0 else 9999 - number, ('in', 'bbbbbbbb', 12))
        self.is_as_its_deeds(wharf)
        self.assertEqual(wharf.done, 18)


class Conventions(unittest.TestCase):
    def test_equal_calls_return_equal_results(self):
        dice = random.Random(207)
        for yard in some_yards(207, 60) + [LARGE, NONE]:
            twin, lot, rows = Yard(yard.text), some_lot(dice, yard), ()
            calls = [(others_of, lot), (left_by, ()), (harmless,), (less_than, yard.bare()), (even, yard.bare())]
            offers, wishes = offers_of(dice, yard), wishes_of(dice, yard)
            calls += [(cheapest, offers, wishes), (by_choice, offers, ())] if offers else []
            if fitting(yard)[0] == 'mixing':
                prices = tuple(dice.randint(1, 99) for _ in yard.ends)
                calls += [(leak, lot), (holds, lot, 2), (holding, 2), (fewest, 2), (cheapest_lot, prices, 2), (worst,)]
                rows = [fitting(yard)[1]]
            if rows and len(yard):
                question, aim = some_question(dice, yard, rows), some_question(dice, yard, rows)
                spot = dice.choice(all_spots(yard))
                calls += [
                    (tells, spot, aim), (tellers, aim), (asks, (question,), aim), (wanted, (question,), aim),
                    (left_by, ((question, True), ((aim[0], aim[1]), False))) if question != aim else (known, aim),
                ]
            block = some_block(dice, yard) if yard is not LARGE else None
            calls += [(again, block, 10 ** 8), (turns, block), (until, block, (), 0)] if block else []
            for call, *told in calls:
                self.assertTrue(same(call(yard, *told), call(twin, *told)), (yard.text, call, told))

    def test_wharves_apart(self):
        for yard in some_yards(218, 60):
            if fitting(yard)[0] == 'mixing':
                one, other = wharf_by(yard), wharf_by(yard)
                self.assertTrue(same(told_of(one), told_of(other)))
                self.assertEqual(journal(one), journal(other))
                for spot in all_spots(yard)[::5]:
                    self.assertEqual((one.most(spot), one.least(spot)), (other.most(spot), other.least(spot)))
                    self.assertEqual((one.most(spot), one.least(spot)), (one.most(spot), one.least(spot)))

    def test_yards_do_not_change(self):
        told = (YARD.text, YARD.steps, YARD.samples, YARD.ends)
        left_by(YARD, (((('by', 2), 2), True),)), tellers(YARD, (('by', 2), 2)), asks(YARD, (), (('by', 1), 1))
        self.assertEqual(told, (YARD.text, YARD.steps, YARD.samples, YARD.ends))


if __name__ == '__main__':
    unittest.main()
