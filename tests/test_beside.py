"""Section 26: yards beside one another."""

import random
import unittest

from dyedpours.beside import even, harmless, less_than, outcome, shows_even, shows_less_than
from dyedpours.errors import BadYard, NotMixing, Unlike
from dyedpours.tables import table
from dyedpours.yards import Yard, yard_of
from tests.helpers import (
    EMPTY, LARGE, NONE, ODD, TWO, YARD, all_mixings, gives, lot_dye, lots_of, raises, some_yards,
)
from tests.test_cuts import NO_LOTS, some_lot
from tests.test_mixings import NO_MIXINGS, ROW

ONE, OTHER = Yard('vessels a b\ndye a 3\nfill a 3\npour a b 3'), Yard('vessels a b\nfill b 3\ndye a 3')
LESS = Yard('vessels a b\nfill b 3\ndye a 2\nfill a 1')


def amounts(yard):
    """How much each end is."""
    return [yard.amount(end) if len(yard) else 0 for end in yard.ends]


def outcomes(yard):
    """All outcomes, each mixing gone through."""
    ends = range(len(yard.ends))
    return {tuple(lot_dye(yard, row, (number,)) for number in ends) for row in all_mixings(yard)}


def changed_steps(dice, yard):
    """The steps in some other sequence, and perhaps with other words of sources."""
    steps = list(yard.steps)
    for _ in range(dice.randint(0, 2)):
        at = dice.randrange(len(steps))
        if steps[at][0] in ('fill', 'dye'):
            steps[at] = (dice.choice(('fill', 'dye')),) + steps[at][1:]
    for _ in range(dice.randint(1, 4)):
        at = dice.randrange(len(steps) - 1) if len(steps) > 1 else 0
        steps[at:at + 2] = steps[at:at + 2][::-1]
    if dice.random() < 0.4:
        vessels = dice.sample(yard.vessels, min(2, len(yard.vessels)))
        if len(vessels) == 2:
            steps[len(steps):] = [('pour', *vessels, 1), ('pour', *vessels[::-1], 1)]
    return steps


def like_ones(dice, yard, many):
    """Some yards that are like this one."""
    found = []
    for _ in range(many if len(yard) else 0):
        try:
            other = yard_of(yard.vessels, changed_steps(dice, yard), ())
        except BadYard:
            continue
        if amounts(other) == amounts(yard):
            found.append(other)
    return found


def dyed(yard):
    """How much was dyed."""
    return sum(step[-1] for step in yard.steps if step[0] == 'dye')


def is_right(one, other, told):
    """Whether this is right of both yards, all mixings gone through."""
    if told[0] == 'within':
        return outcomes(one) <= outcomes(other)
    if told[0] == 'all':
        return told[1:] == (dyed(one), dyed(other)) and told[1] != told[2]
    _, lot, row = told
    most = max(lot_dye(other, its, lot) for its in all_mixings(other))
    return row in all_mixings(one) and lot_dye(one, row, lot) > most and dyed(one) == dyed(other)


class Less(unittest.TestCase):
    def test_the_example(self):
        gives(self, 'lot', lambda: less_than(ONE, OTHER)[0])
        gives(self, ('within',), less_than, OTHER, ONE)
        gives(self, 'one', lambda: even(ONE, OTHER)[0])
        gives(self, (0,), harmless, ONE)
        gives(self, (2, 0, 2, 0), outcome, YARD, (0, 4, 2, 2, 0))

    def test_small_yards(self):
        dice, met = random.Random(210), []
        for yard in some_yards(210, 300):
            for other in like_ones(dice, yard, 3):
                told = less_than(one=yard, other=other)
                met.append((told[0], even(one=yard, other=other)[0]))
                self.assertTrue(is_right(yard, other, told), (yard.text, other.text, told))
                gives(self, True, shows_less_than, one=yard, other=other, value=told)
                its, had = outcomes(yard), outcomes(other)
                self.assertEqual(told == ('within',), its <= had)
                found = even(yard, other)
                self.assertEqual(found[0] == 'alike', its == had)
                gives(self, True, shows_even, one=yard, other=other, value=found)
                for word, pair in (('one', (yard, other)), ('other', (other, yard))):
                    told = less_than(*pair)
                    gives(self, told != ('within',), shows_even, yard, other, (word, told))
                    self.assertTrue(found[0] != word or is_right(*pair, found[1]))
        for pair in (('within', 'alike'), ('within', 'other'), ('all', 'one'), ('lot', 'one')):
            self.assertGreater(met.count(pair), 10, pair)

    def test_samples_are_left_aside(self):
        gives(self, ('within',), less_than, YARD, NONE)
        gives(self, ('within',), less_than, NONE, TWO)
        gives(self, ('alike',), even, TWO, NONE)
        gives(self, (2, 0, 2, 0), outcome, NONE, ROW)
        sampled = ONE.with_sample(('is', 0, ('by', 2)))
        told = less_than(sampled, OTHER)
        gives(self, 'lot', lambda: told[0])
        gives(self, True, shows_less_than, sampled, OTHER, told)
        gives(self, harmless(YARD), harmless, NONE)

    def test_how_much_was_dyed(self):
        gives(self, ('all', 3, 2), less_than, OTHER, LESS)
        gives(self, ('all', 2, 3), less_than, LESS, OTHER)
        gives(self, 'one', lambda: even(LESS, OTHER)[0])
        for value in (('all', 2, 3), ('all', 3, 3), ('all', 3, 1), ('all', 3, True), ('all', 3), ['all', 3, 2]):
            gives(self, False, shows_less_than, OTHER, LESS, value)
        for value in (('lot', (0,), (0, 3)), ('lot', 3, 2), ('All', 3, 2), (None, 3, 2), ('within', 3, 2)):
            gives(self, False, shows_less_than, OTHER, LESS, value)
        one, none = Yard('vessels a\ndye a 1'), Yard('vessels a\nfill a 1')
        gives(self, True, shows_less_than, one, none, ('all', 1, 0))
        gives(self, True, shows_less_than, none, one, ('all', 0, 1))
        for value in (('all', True, 0), ('all', 1, False), ('all', '1', 0), ('all', 1, None)):
            gives(self, False, shows_less_than, one, none, value)
        gives(self, True, shows_even, OTHER, LESS, ('other', ('all', 2, 3)))
        gives(self, True, shows_even, OTHER, LESS, ('one', ('all', 3, 2)))
        gives(self, False, shows_even, OTHER, LESS, ('other', ('all', 3, 2)))

    def test_the_largest_yard(self):
        bare = LARGE.bare()
        # Pours that are done the other way about behind all steps, and one that leads more about.
        steps = bare.steps[:-3] + (('pour', 'f', 'c', 1),) + bare.steps[-2:]
        gives(self, ('alike',), even, LARGE, bare)
        raises(self, Unlike, yard_of(bare.vessels, steps, ()), less_than, LARGE, yard_of(bare.vessels, steps, ()))
        swapped = list(bare.steps)
        for at in (0, 4, 5, 8):
            swapped[at:at + 2] = swapped[at:at + 2][::-1]
            try:
                other = yard_of(bare.vessels, swapped, ())
            except BadYard:
                swapped[at:at + 2] = swapped[at:at + 2][::-1]
                continue
            for pair in ((LARGE, other), (other, LARGE)):
                told = less_than(*pair)
                gives(self, True, shows_less_than, *pair, told)
                most = [table(yard, 14) for yard in pair]
                self.assertEqual(told == ('within',), all(one <= its for one, its in zip(*most)))
                gives(self, True, shows_even, *pair, even(*pair))

    def test_without_steps(self):
        gives(self, ('within',), less_than, EMPTY, EMPTY)
        gives(self, ('alike',), even, EMPTY, Yard('vessels a b'))
        gives(self, (), harmless, EMPTY)
        gives(self, (0, 0), outcome, EMPTY, ())
        raises(self, NotMixing, (0,), outcome, EMPTY, (0,))
        raises(self, Unlike, YARD, less_than, EMPTY, YARD)

    def test_unlike_yards(self):
        others = [
            Yard('vessels b a\nfill b 3\ndye a 3'), Yard('vessels a b\nfill b 3\ndye a 4'), EMPTY, Yard('vessels a b c'),
            Yard('vessels a b\nfill b 3\ndye a 4\ndraw a 1'), Yard('vessels a b c\nfill b 3\ndye a 3'), YARD,
            Yard('vessels a b\nfill a 3'), Yard('vessels a c\nfill c 3\ndye a 3'),
        ]
        glasses = Yard('vessels a\ndye a 4\ndraw a 1\ndraw a 2')
        for value in ODD + tuple(others):
            for call, more in (
                (less_than, ()), (even, ()), (shows_less_than, (None,)), (shows_even, (('alike',),)), (shows_even, (None,)),
            ):
                raises(self, Unlike, value, call, OTHER, value, *more)
                if value != YARD or not isinstance(value, Yard):
                    raises(self, Unlike, value, call, YARD, value, *more)
        turned = Yard('vessels a\ndye a 4\ndraw a 2\ndraw a 1')
        raises(self, Unlike, turned, less_than, glasses, turned)
        raises(self, Unlike, turned, shows_even, glasses, turned, ('alike',))


class Shows(unittest.TestCase):
    def test_any_right_one(self):
        dice, met = random.Random(211), []
        for some in some_yards(211, 400):
            pairs = [pair for other in like_ones(dice, some, 3) for pair in ((some, other), (other, some))]
            for yard, other in [pair for pair in pairs if less_than(*pair)[0] == 'lot' or dice.random() < 0.1]:
                rows = all_mixings(yard)
                for _ in range(4):
                    lot = some_lot(dice, yard)
                    row = max(rows, key=lambda row: lot_dye(yard, row, lot)) if dice.random() < 0.7 else dice.choice(rows)
                    right = is_right(yard, other, ('lot', lot, row))
                    gives(self, right, shows_less_than, yard, other, ('lot', lot, row))
                    gives(self, right, shows_even, yard, other, ('one', ('lot', lot, row)))
                    gives(self, right, shows_even, other, yard, ('other', ('lot', lot, row)))
                    met.append(right)
                gives(self, is_right(yard, other, ('within',)), shows_less_than, yard, other, ('within',))
                same_ones = outcomes(yard) == outcomes(other)
                gives(self, same_ones, shows_even, yard, other, ('alike',))
        self.assertGreater(min(met.count(True), met.count(False)), 30)

    def test_nothing_else(self):
        told = less_than(ONE, OTHER)
        _, lot, row = told
        gives(self, ('lot', (1,), (3, 0, 3)), lambda: told)
        for value in ODD + (
            ('lot', lot), ('lot', lot, row, 0), ['lot', lot, row], ('lot', list(lot), row), ('lot', lot, list(row)),
            ('lot', (0,), row), ('lot', (0, 1), row), ('lot', lot, (3, 0, 0)), ('within',), ('all', 3, 3), ('within', lot, row),
            ('lot', lot, None), ('lot', row, lot), (None, lot, row), ('lot', (), row),
        ) + tuple((value, lot, row) for value in ODD):
            gives(self, False, shows_less_than, ONE, OTHER, value)
            gives(self, False, shows_even, ONE, OTHER, ('one', value))
        for value in NO_LOTS:
            gives(self, False, shows_less_than, ONE, OTHER, ('lot', value, row))
        for value in NO_MIXINGS:
            gives(self, False, shows_less_than, ONE, OTHER, ('lot', lot, value))
        for value in ODD + ('within', ['within'], ('within', ()), ('Within',), (['within'],), ('alike',)):
            gives(self, False, shows_less_than, OTHER, ONE, value)
        for value in ODD + (
            'alike', ['alike'], ('alike', ()), ('within',), ('one', ('within',)), ('other', ('within',)), ('alike', ('within',)),
            ('one', less_than(ONE, OTHER)), ('one',), ('other',), (None, ('within',)),
        ):
            gives(self, False, shows_even, OTHER, OTHER.with_sample(('is', 0, ('by', 0))), value)
        for value in ODD + (
            ('alike',), ('one', told, 0), ['one', told], ('one', list(told)), ('other', told), ('One', told), (told, 'one'),
            ('one', ('within',)), ('other', ('within',)), ('one',), told,
        ) + tuple((value, told) for value in ODD):
            gives(self, False, shows_even, ONE, OTHER, value)
        gives(self, True, shows_even, ONE, OTHER, ('one', told))
        gives(self, True, shows_even, OTHER, ONE, ('other', told))
        for word in ('Other', 'one', 'alike', 'within', '', None, ('other',)):
            gives(self, False, shows_even, OTHER, ONE, (word, told))


class Harmless(unittest.TestCase):
    def test_small_yards(self):
        met = []
        for yard in some_yards(212, 300):
            found = []
            for at in range(len(yard) - 1):
                steps = list(yard.steps)
                steps[at:at + 2] = steps[at:at + 2][::-1]
                try:
                    other = yard_of(yard.vessels, steps, ())
                except BadYard:
                    continue
                if 'draw' not in (steps[at][0], steps[at + 1][0]) and outcomes(other) == outcomes(yard):
                    found.append(at)
                met.append('draw' in (steps[at][0], steps[at + 1][0]) or at in found)
            gives(self, tuple(found), harmless, yard=yard)
        self.assertGreater(min(met.count(True), met.count(False)), 20)

    def test_what_may_not_be_exchanged(self):
        # Sources into the vessel from which is poured, and pours that undo one another.
        gives(self, (0,), harmless, Yard('vessels a b\nfill a 3\ndye a 3\npour a b 3'))
        gives(self, (0, 1, 2), harmless, Yard('vessels a b\ndye a 3\ndye a 3\npour a b 3\ndye a 2'))
        gives(self, (), harmless, Yard('vessels a\nfill a 3\ndraw a 1\nfill a 2'))
        gives(self, (0,), harmless, Yard('vessels a\nfill a 3\nfill a 1\ndraw a 1\ndraw a 1'))
        gives(self, (), harmless, Yard('vessels a\nfill a 3'))
        gives(self, (1,), harmless, Yard('vessels a b\ndye a 3\npour a b 1\npour a b 1'))

    def test_the_largest_yard(self):
        found = harmless(LARGE)
        for at in range(13):
            if at in found:
                steps = list(LARGE.steps)
                steps[at:at + 2] = steps[at:at + 2][::-1]
                gives(self, table(LARGE, 14), table, yard_of(LARGE.vessels, steps, ()), 14)
        self.assertTrue(found)


class Outcomes(unittest.TestCase):
    def test_small_yards(self):
        for yard in some_yards(213, 60):
            for row in all_mixings(yard)[::5]:
                lots = [lot for lot in lots_of(len(yard.ends)) if len(lot) == 1]
                gives(self, tuple(lot_dye(yard, row, lot) for lot in lots), outcome, yard=yard, row=row)

    def test_wrong_rows(self):
        for value in NO_MIXINGS:
            raises(self, NotMixing, value, outcome, YARD, value)


if __name__ == '__main__':
    unittest.main()
