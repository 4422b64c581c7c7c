"""Section 25: rounds."""

import random
import unittest

from dyedpours.errors import BadBlock, BadLot, BadMany, BadMost, BadStep
from dyedpours.forms import step_line
from dyedpours.rounds import again, turns, until
from dyedpours.tables import most_at
from dyedpours.yards import Yard
from tests.helpers import (
    EMPTY, LARGE, NONE, ODD, TWO, YARD, all_mixings, gives, lots_of, moved, raises, some_yards, spot_dye,
)
from tests.test_recalls import NO_MOSTS

TUB = Yard('vessels a\ndye a 4\nfill a 6')
FIVE, EIGHT = 'draw a 5\nfill a 5', 'draw a 8\nfill a 8'
TO_AND_FRO = 'pour a b 1\npour b a 1'
NO_BLOCKS = ODD + (
    'fill a', 'fill a 1', 'draw a 1', 'fill a 0\ndraw a 1', 'draw a 3\nfill a 3', 'pour a b 1', FIVE, ' ' + TO_AND_FRO,
    TO_AND_FRO + '\n', '\n' + TO_AND_FRO, TO_AND_FRO + ' ', 'pour a b 01\npour b a 1', 'pour a b  1\npour b a 1',
    'pour a b 1\n\npour b a 1', 'pour a c 1\npour c a 1', 'pour a a 1', 'fill a 100\ndraw a 100', [TO_AND_FRO],
    'fill a 1\ndraw b 1', 'pour a b 2\npour b a 1', 'pour b a 1\npour a b 1\nis 1 by 0', 'fill a 1.0\ndraw a 1',
    'fill a +1\ndraw a 1', 'vessels a b', 'sample is 1 by 0', (TO_AND_FRO,), TO_AND_FRO.split('\n'), 'pour b a 3\npour a b 6',
    'fill a -1\ndraw a 1', 'draw b 4\nfill b 4', 'Fill a 1\ndraw a 1', 'fill\ta 1\ndraw a 1', 'fill a 1\tdraw a 1',
    '\n'.join([TO_AND_FRO] * 4 + ['draw a 1', 'fill a 1']), 'pour a b 1\npour b a 1 1', 'draw a 1\nfill b 1',
)
NO_MANYS = tuple(value for value in ODD if type(value) is not int) + (-1, 10 ** 9, (0,), [0], '0', 10 ** 12)
NO_LOTS_OF_VESSELS = tuple(value for value in ODD if value != ()) + (
    (2,), (3,), (-1,), (0, 0), (1, 0), [0, 1], (0, True), (False,), ('a',), ('0',), (0, None), 0, 'a', (0, 1, 2), ((0,),),
)


def stands_of(yard):
    """All (dyed, clean) grain that can stand in all vessels at last."""
    found = []
    for row in all_mixings(yard):
        ends = [(vessel, ('in', vessel, len(yard))) for vessel in yard.vessels]
        dyes = {vessel: spot_dye(yard, row, spot) if len(yard) else 0 for vessel, spot in ends}
        found.append({vessel: (dyes[vessel], yard.level(vessel, len(yard)) - dyes[vessel]) for vessel in yard.vessels})
    return unlike(found)


def unlike(stands):
    """These without those that are there twice."""
    return list({tuple(sorted(stand.items())): stand for stand in stands}.values())


def stands_behind(stands, block):
    """All that can stand behind one round more."""
    for line in block.split('\n'):
        words = line.split(' ')
        step = (*words[:-1], int(words[-1]))
        behind = [moved(step, number, stand) for stand in stands for number in range(step[-1] + 1)]
        stands = unlike([stand for stand in behind if stand is not None])
    return stands


def most_in(yard, stands):
    """The most dye of all lots of vessels."""
    lots = [[yard.vessels[number] for number in lot] for lot in lots_of(len(yard.vessels))]
    return tuple(max(sum(stand[vessel][0] for vessel in lot) for stand in stands) for lot in lots)


def some_block(dice, yard):
    """Some block for a yard; None if none was met."""
    last = Yard('\n'.join(['vessels ' + ' '.join(yard.vessels)] + [
        'fill %s %d' % (vessel, level) for vessel, level in levels_of(yard) if level
    ]))
    steps = []
    for _ in range(dice.randint(1, 5)):
        vessel = dice.choice(yard.vessels)
        level = last.level(vessel, len(last))
        kind = dice.choice(('fill', 'dye', 'draw', 'pour', 'pour', 'pour'))
        others = [other for other in yard.vessels if other != vessel]
        if kind in ('fill', 'dye') or level and (kind == 'draw' or others):
            amount = 1 if dice.random() < 0.6 else dice.randint(1, 3 if kind in ('fill', 'dye') else level)
            step = (kind, vessel, *([dice.choice(others)] if kind == 'pour' else []), amount)
            try:
                last = last.with_step(step)
            except BadStep:
                continue
            steps.append(step)
    return balanced(dice, yard, last, steps)


def levels_of(yard):
    """Each vessel with what stands in it at last."""
    return [(vessel, yard.level(vessel, len(yard))) for vessel in yard.vessels]


def balanced(dice, yard, last, steps):
    """A block of these steps, and of what is poured back, drawn or filled behind them; None if it gets too long."""
    rest = [[vessel, level - had] for (vessel, level), (_, had) in zip(levels_of(last), levels_of(yard))]
    while any(more for _, more in rest):
        over, under = [part for part in rest if part[1] > 0], [part for part in rest if part[1] < 0]
        if over and under:
            amount = min(over[0][1], -under[0][1])
            steps = steps + [('pour', over[0][0], under[0][0], amount)]
            over[0][1] -= amount
            under[0][1] += amount
        else:
            part = (over + under)[0]
            steps = steps + [(dice.choice(('fill', 'dye')) if part[1] < 0 else 'draw', part[0], abs(part[1]))]
            part[1] = 0
    return '\n'.join(step_line(step) for step in steps) if 1 <= len(steps) <= 8 else None


def gone_through(yard, block, most):
    """What again tells of each number of rounds, gone round by round; the last one is the first that comes again."""
    stands = stands_of(yard)
    told = []
    for _ in range(most):
        told.append(most_in(yard, stands))
        stands = stands_behind(stands, block)
    return told


class Again(unittest.TestCase):
    def test_the_example(self):
        gives(self, (0, 4), again, TUB, FIVE, 7)
        gives(self, (0, 1), turns, TUB, FIVE)
        gives(self, (0, 2), again, TUB, EIGHT, 1)
        gives(self, (1, 1), turns, TUB, EIGHT)
        gives(self, 1, until, TUB, EIGHT, (0,), 2)
        gives(self, None, until, TUB, EIGHT, (0,), 1)
        gives(self, (0, 2, 3, 4), again, YARD, TO_AND_FRO, 0)

    def test_round_by_round(self):
        dice, met, many = random.Random(180), [], 0
        for yard in some_yards(180, 500):
            block = some_block(dice, yard)
            if block is None or len(yard.vessels) > 3:
                continue
            many += 1
            told = gone_through(yard, block, 9)
            for number, answer in enumerate(told):
                gives(self, answer, again, yard=yard, block=block, many=number)
            ahead, around = turns(yard=yard, block=block)
            met.append((ahead, around))
            if ahead + around < len(told):
                self.assertEqual(len(set(told[:ahead + around])), ahead + around)
                self.assertEqual(told[ahead], told[ahead + around])
            for at, lot in enumerate(lots_of(len(yard.vessels))):
                for most in range(4):
                    behind = [number for number, row in enumerate(told) if row[at] <= most]
                    found = until(yard=yard, block=block, lot=lot, most=most)
                    self.assertEqual(found if found is None or found < 9 else None, behind[0] if behind else None)
        self.assertGreater(many, 150)
        self.assertGreater(len(set(met)), 8)
        self.assertGreater(len([ahead for ahead, _ in met if ahead > 2]), 10)

    def test_turns_and_again_go_together(self):
        dice = random.Random(181)
        for yard in some_yards(181, 150):
            block = some_block(dice, yard)
            if block is None:
                continue
            ahead, around = turns(yard, block)
            rows = [again(yard, block, number) for number in range(ahead + around)]
            self.assertEqual(len(set(rows)), len(rows))
            for number in (ahead + around, ahead + around + 1, 10 ** 9 - 1, 10 ** 9 - 2, dice.randint(0, 10 ** 9 - 1)):
                if number >= ahead:
                    gives(self, rows[ahead + (number - ahead) % around], again, yard, block, number)
                else:
                    gives(self, rows[number], again, yard, block, number)

    def test_none_is_gone_round(self):
        for yard in some_yards(182, 60) + [LARGE]:
            lots = lots_of(len(yard.vessels))
            vessel = yard.vessels[0]
            block = 'fill %s 7\ndraw %s 7' % (vessel, vessel)
            gives(self, tuple(most_at(yard, len(yard), lot) for lot in lots), again, yard, block, 0)

    def test_samples_are_left_aside(self):
        for yard in (TWO, NONE):
            for many in (0, 1, 5):
                gives(self, again(YARD, TO_AND_FRO, many), again, yard, TO_AND_FRO, many)
            gives(self, turns(YARD, TO_AND_FRO), turns, yard, TO_AND_FRO)
            gives(self, until(YARD, TO_AND_FRO, (1,), 3), until, yard, TO_AND_FRO, (1,), 3)

    def test_vessels_that_change_places(self):
        # Three vessels' grain goes round, by way of the fourth one.
        yard = Yard('vessels a b c d\ndye a 2\nfill b 2\nfill c 2')
        block = 'pour c d 2\npour b c 2\npour a b 2\npour d a 2'
        gives(self, (0, 3), turns, yard, block)
        for many in range(9):
            lot = many % 3
            gives(self, (0,) + tuple(2 * (at == lot) for at in range(4)), lambda: again(yard, block, many)[:5])
        gives(self, (0, 0, 0, 2, 0), lambda: again(yard, block, 999999998)[:5])
        for lot, number in (((0,), 1), ((1,), 0), ((2,), 0), ((0, 1), 2), ((0, 1, 2), None), ((3,), 0), ((), 0)):
            gives(self, number, until, yard, block, lot, 1)
            gives(self, 0, until, yard, block, lot, 2)

    def test_others_behind_the_first_rounds(self):
        # The first round alone takes some of the dye away, and three vessels' grain goes round in all of them.
        yard = Yard('vessels a b c d e\ndye a 2\nfill b 2\nfill c 2\ndye e 2')
        block = 'draw e 1\nfill e 1\npour c d 2\npour b c 2\npour a b 2\npour d a 2'
        gives(self, (1, 3), turns, yard, block)
        for many in (0, 1, 2, 3, 4, 5, 6, 7, 8, 100, 101, 102, 999999999, 999999998):
            vessels = tuple(2 * (at == many % 3) for at in range(3)) + (0, 1 if many else 2)
            gives(self, (0,) + vessels, lambda: again(yard, block, many)[:6])

    def test_dye_in_rounds(self):
        yard = Yard('vessels a b\nfill a 5\nfill b 3')
        block = 'draw a 1\ndye a 1'
        for many in range(9):
            gives(self, (0, min(many, 5), 0, min(many, 5)), again, yard, block, many)
        gives(self, (5, 1), turns, yard, block)
        gives(self, 0, until, yard, block, (0,), 0)
        # What is drawn ahead may be just what was dyed, and what comes behind it is dyed.
        gives(self, None, until, TUB, 'draw a 9\ndye a 9', (0,), 3)
        gives(self, 0, until, TUB, 'draw a 9\ndye a 9', (0,), 4)
        gives(self, (0, 10), again, TUB, 'draw a 9\ndye a 9', 1)

    def test_more_draws_and_steps_than_a_yard_may_have(self):
        yard = Yard('\n'.join(['vessels a b c d e f', 'dye a 9', 'fill a 9'] + ['fill b 1'] * 9 + ['draw a 1'] * 3))
        block = '\n'.join(['draw a 1', 'fill a 1'] * 4)
        gives(self, (0, 9), lambda: again(yard, block, 3)[:2])
        raises(self, BadStep, ('draw', 'a', 1), yard.with_step, ('draw', 'a', 1))
        block = '\n'.join(['dye a 99'] * 4 + ['draw a 99'] * 4)
        gives(self, (0, 15), lambda: again(yard, block, 3)[:2])

    def test_without_steps(self):
        gives(self, (0, 0, 0, 0), again, EMPTY, 'fill a 1\ndraw a 1', 9)
        gives(self, (0, 0, 0, 0), again, EMPTY, 'dye a 1\npour a b 1\ndraw b 1', 10 ** 9 - 1)
        gives(self, (0, 1), turns, EMPTY, 'dye a 99\ndraw a 99')
        gives(self, 0, until, EMPTY, 'dye a 99\ndraw a 99', (0, 1), 0)

    def test_many_rounds_of_the_largest_yards(self):
        # One grain more is dyed in each round, of all that stand there.
        full = Yard('\n'.join(['vessels a b'] + ['fill a 99'] * 14))
        gives(self, (1386, 1), turns, full, 'draw a 1\ndye a 1')
        gives(self, (0, 1385, 0, 1385), again, full, 'draw a 1\ndye a 1', 1385)
        gives(self, (0, 1386, 0, 1386), again, full, 'draw a 1\ndye a 1', 10 ** 9 - 1)
        clear = Yard('\n'.join(['vessels a b'] + ['dye a 99'] * 14))
        gives(self, None, until, clear, 'draw a 1\nfill a 1', (0,), 1385 - 1)
        gives(self, 1, until, clear, 'draw a 1\nfill a 1', (0,), 1385)
        dyed = Yard('\n'.join(['vessels a b c d e f'] + ['dye a 99'] * 2 + ['fill %s 99' % vessel for vessel in 'bcdef'] * 2))
        block = 'pour a b 1\npour b c 1\npour c d 1\npour d e 1\npour e f 1\npour f a 1\npour d b 5\npour b d 5'
        ahead, around = turns(dyed, block)
        self.assertGreater(ahead, 150)
        gives(self, 198, lambda: again(dyed, block, 10 ** 9 - 1)[6])
        gives(self, again(dyed, block, ahead), again, dyed, block, ahead + around)
        self.assertNotEqual(again(dyed, block, ahead - 1), again(dyed, block, ahead - 1 + around))

    def test_wrong_blocks(self):
        for yard in (YARD, NONE):
            for value in NO_BLOCKS:
                raises(self, BadBlock, value, again, yard, value, None)
                raises(self, BadBlock, value, turns, yard, value)
                raises(self, BadBlock, value, until, yard, value, None, None)
        raises(self, BadBlock, FIVE, turns, EMPTY, FIVE)
        raises(self, BadBlock, 'draw a 11\nfill a 11', turns, TUB, 'draw a 11\nfill a 11')
        gives(self, (1, 1), turns, TUB, 'draw a 10\nfill a 10')
        eight = '\n'.join([TO_AND_FRO] * 4)
        gives(self, 4, lambda: len(again(YARD, eight, 1)))
        raises(self, BadBlock, eight + '\ndraw a 1\nfill a 1', turns, YARD, eight + '\ndraw a 1\nfill a 1')
        raises(self, BadBlock, eight + '\nfill a 1', turns, YARD, eight + '\nfill a 1')
        nine = '\n'.join(['pour a b 2\npour b a 1\npour b a 1'] * 3)
        raises(self, BadBlock, nine, turns, YARD, nine)

    def test_wrong_arguments(self):
        for value in NO_MANYS:
            raises(self, BadMany, value, again, YARD, TO_AND_FRO, value)
        for value in NO_LOTS_OF_VESSELS:
            raises(self, BadLot, value, until, YARD, TO_AND_FRO, value, 3)
            raises(self, BadLot, value, until, YARD, TO_AND_FRO, value, None)
        for value in NO_MOSTS:
            raises(self, BadMost, value, until, YARD, TO_AND_FRO, (0,), value)
        gives(self, 0, until, YARD, TO_AND_FRO, (0, 1), 9999)
        gives(self, None, until, YARD, TO_AND_FRO, (0, 1), 0)
        gives(self, 4, lambda: len(again(YARD, TO_AND_FRO, 10 ** 9 - 1)))


if __name__ == '__main__':
    unittest.main()
