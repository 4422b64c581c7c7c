"""Section 20: turned about in time."""

import random
import unittest

from dyedpours.backward import backward, turned_end, turned_mixing
from dyedpours.errors import BadLot, BadMarks, Full, Great, NoSource, NotMixing
from dyedpours.lots import greatest
from dyedpours.sources import share
from dyedpours.yards import Yard
from tests.helpers import (
    EMPTY, LARGE, NONE, ODD, TWO, YARD, all_mixings, gives, lots_of, raises, some_yards, spot_dye,
)
from tests.test_cuts import NO_LOTS, some_lot
from tests.test_mixings import NO_MIXINGS, ROW
from tests.test_sources import NO_MARKS, NO_SOURCES, dyed_alone, sources_of


def turned_steps(yard, lot):
    """The steps of the yard turned about, and for each the spot of the yard that it moves."""
    dyed = [yard.ends[number] for number in lot]
    found = []
    for spot in yard.ends[:len(yard.vessels)]:
        if yard.amount(spot) > 0:
            found.append((('dye' if spot in dyed else 'fill', spot[1], yard.amount(spot)), spot))
    for number in range(len(yard))[::-1]:
        kind, *names, amount = yard.steps[number]
        if kind == 'draw':
            step = ('dye' if ('by', number) in dyed else 'fill', *names, amount)
        elif kind == 'pour':
            step = ('pour', names[1], names[0], amount)
        else:
            step = ('draw', *names, amount)
        found.append((step, ('by', number)))
    return found


def may_be_turned(yard):
    """Whether backward's yard is one, but for more than 99 that may stand in a vessel."""
    standing = [spot for spot in yard.ends[:len(yard.vessels)] if len(yard) and yard.amount(spot) > 0]
    return len(yard.vessels) + len(sources_of(yard)) <= 9 and len(standing) + len(yard) <= 14


class Backward(unittest.TestCase):
    def test_the_example(self):
        turned = (
            ('fill', 'a', 2), ('dye', 'b', 3), ('fill', 'a', 3), ('fill', 'b', 2), ('pour', 'b', 'a', 5),
            ('draw', 'a', 4), ('draw', 'a', 6),
        )
        gives(self, turned, lambda: backward(YARD, (1,)).steps)
        gives(self, 3, turned_end, YARD, 0)
        gives(self, (2, 0, 0, 2, 2, 4, 0), turned_mixing, YARD, (1,), (1,), (0, 4, 2, 2, 0))

    def test_small_yards(self):
        dice = random.Random(110)
        for yard in some_yards(110, 150):
            self.assertTrue(may_be_turned(yard) or len(yard) > 8)
            lot = some_lot(dice, yard)
            told = backward(yard=yard, lot=lot)
            steps = turned_steps(yard, lot) if len(yard) else []
            gives(self, (yard.vessels, tuple(step for step, _ in steps), ()), lambda: (
                told.vessels, told.steps, told.samples,
            ))
            for number in sources_of(yard):
                end = turned_end(yard=yard, number=number)
                step = told.steps[told.ends[end][1]]
                gives(self, ('draw',) + yard.steps[number][1:], lambda: step)
                self.assertEqual(told.ends[end], ('by', [spot for _, spot in steps].index(('by', number))))

    def test_as_much_as_share_tells(self):
        dice = random.Random(111)
        for yard in some_yards(111, 120):
            known = sources_of(yard)
            for _ in range(3):
                lot, marks = some_lot(dice, yard), tuple(sorted(dice.sample(known, dice.randint(0, len(known)))))
                glasses = tuple(sorted(turned_end(yard, number) for number in marks))
                most = share(yard, marks, lot)[1]
                gives(self, most, lambda: greatest(backward(yard, lot), glasses)[0])

    def test_samples_are_left_aside(self):
        for lot in lots_of(4):
            gives(self, backward(YARD, lot).text, lambda: backward(NONE, lot).text)
            gives(self, turned_mixing(YARD, lot, (0,), (6, 0, 3, 0, 1)), turned_mixing, TWO, lot, (0,), (6, 0, 3, 0, 1))

    def test_without_steps(self):
        gives(self, EMPTY.text, lambda: backward(EMPTY, (0,)).text)
        gives(self, (), turned_mixing, EMPTY, (), (), ())
        raises(self, NoSource, 0, turned_end, EMPTY, 0)

    def test_just_ninety_nine_and_one_more(self):
        yard = Yard('vessels a b\nfill a 98\ndye a 1')
        gives(self, (('fill', 'a', 99), ('draw', 'a', 1), ('draw', 'a', 98)), lambda: backward(yard, ()).steps)
        for more in (yard.with_step(('dye', 'a', 1)), yard.with_step(('fill', 'a', 99))):
            raises(self, Great, 99, backward, more, (0,))
            raises(self, BadLot, (2,), backward, more, (2,))
            less = more.with_step(('draw', 'a', 50)).with_step(('draw', 'a', 50))
            gives(self, len(less) + (less.level('a', 5) > 0), lambda: len(backward(less, (0,))))

    def test_just_nine_and_one_more(self):
        steps = ['fill a 1', 'dye a 1'] * 4
        yard = Yard('vessels a\n' + '\n'.join(steps))
        gives(self, 9, lambda: len(backward(yard, (0,))))
        raises(self, Full, 9, backward, yard.with_step(('dye', 'a', 1)), (0,))
        raises(self, Full, 9, backward, Yard('vessels a b c\n' + '\n'.join(steps[:7])), (0,))
        gives(self, 7, lambda: len(backward(Yard('vessels a b c\n' + '\n'.join(steps[:6])), (0,))))

    def test_just_fourteen_and_one_more(self):
        back_and_forth = ['pour a b 1', 'pour b a 1'] * 7
        yard = Yard('vessels a b\nfill a 1\n' + '\n'.join(back_and_forth[:12]))
        gives(self, 14, lambda: len(backward(yard, (0,))))
        raises(self, Full, 14, backward, yard.with_step(('pour', 'a', 'b', 1)), (0,))
        all_drawn = yard.with_step(('draw', 'a', 1))
        gives(self, 14, lambda: len(backward(all_drawn, (2,))))
        both = Yard('vessels a b\nfill a 2\n' + '\n'.join(back_and_forth[:13]))
        raises(self, Full, 14, backward, both, ())

    def test_the_sequence_of_errors(self):
        # More than 99 in a vessel, more than nine sources, more than fourteen steps.
        steps = ['fill a 99', 'dye a 99'] * 5 + ['pour a b 1'] * 4
        yard = Yard('vessels a b\n' + '\n'.join(steps))
        raises(self, BadLot, (9,), backward, yard, (9,))
        raises(self, Great, 99, backward, yard, (0,))
        small = Yard('vessels a b\n' + '\n'.join(['fill a 1'] * 10 + ['pour a b 1'] * 4))
        raises(self, Full, 9, backward, small, (0,))
        few = Yard('vessels a b\n' + '\n'.join(['fill a 9'] * 7 + ['pour a b 1'] * 7))
        raises(self, Full, 14, backward, few, (0,))
        great = Yard('vessels a b\n' + '\n'.join(['fill a 99'] * 7 + ['pour a b 1'] * 7))
        raises(self, Great, 99, backward, great, (0,))

    def test_large_yards(self):
        raises(self, Full, 9, backward, LARGE, ())
        yard = Yard('\n'.join([
            'vessels a b c d e', 'dye a 99', 'fill b 99', 'dye c 99', 'pour a b 60', 'pour b c 99', 'pour c d 90',
            'pour d e 77', 'pour e a 50', 'draw c 70', 'draw c 38',
        ]))
        for lot in ((), (0, 3), (6,), (1, 4, 5), tuple(range(7))):
            turned = backward(yard, lot)
            self.assertEqual(turned.steps, tuple(step for step, _ in turned_steps(yard, lot)))
            for marks in ((0,), (1, 2), (0, 1, 2)):
                glasses = tuple(sorted(turned_end(yard, number) for number in marks))
                gives(self, share(yard, marks, lot)[1], lambda: greatest(turned, glasses)[0])

    def test_wrong_lots(self):
        for call, more in ((backward, ()), (turned_mixing, (None, None))):
            for value in NO_LOTS:
                raises(self, BadLot, value, call, YARD, value, *more)


class TurnedEnds(unittest.TestCase):
    def test_where_backward_refuses(self):
        yard = Yard('vessels a b\n' + '\n'.join(['fill a 99', 'dye a 99'] * 5 + ['pour a b 1'] * 4))
        for number in range(10):
            gives(self, 2 + 9 - number, turned_end, yard, number)
        gives(self, 6 + 3, turned_end, LARGE, 0)
        gives(self, 6, turned_end, LARGE, 3)

    def test_wrong_arguments(self):
        for value in NO_SOURCES:
            raises(self, NoSource, value, turned_end, YARD, value)


class TurnedMixings(unittest.TestCase):
    def test_small_yards(self):
        dice = random.Random(112)
        for yard in some_yards(112, 100):
            known = sources_of(yard)
            marks = tuple(sorted(dice.sample(known, dice.randint(0, len(known)))))
            lot, rows = some_lot(dice, yard), all_mixings(dyed_alone(yard, marks))
            steps = turned_steps(yard, lot) if len(yard) else []
            for row in dice.sample(rows, min(4, len(rows))):
                told = tuple(spot_dye(yard, row, spot) for _, spot in steps)
                gives(self, told, turned_mixing, yard=yard, lot=lot, marks=marks, row=row)

    def test_the_errors_of_backward_come_first(self):
        great = Yard('vessels a b\nfill a 99\ndye a 1')
        raises(self, Great, 99, turned_mixing, great, (0,), None, None)
        raises(self, BadLot, None, turned_mixing, great, None, None, None)
        full = Yard('vessels a\n' + '\n'.join(['fill a 1'] * 9))
        raises(self, Full, 9, turned_mixing, full, (0,), (9,), (0,) * 9)
        many = Yard('vessels a b\n' + '\n'.join(['fill a 9'] * 7 + ['pour a b 1'] * 7))
        raises(self, Full, 14, turned_mixing, many, (0,), (9,), (0,) * 9)

    def test_wrong_marks_and_rows(self):
        for value in NO_MARKS:
            raises(self, BadMarks, value, turned_mixing, YARD, (1,), value, ROW)
            raises(self, BadMarks, value, turned_mixing, YARD, (1,), value, None)
        for value in NO_MIXINGS:
            raises(self, NotMixing, value, turned_mixing, YARD, (1,), (1,), value)
        raises(self, NotMixing, ROW, turned_mixing, YARD, (1,), (0,), ROW)
        raises(self, NotMixing, ROW, turned_mixing, YARD, (1,), (), ROW)
        gives(self, (0,) * 7, turned_mixing, YARD, (1,), (), (0,) * 5)
        for value in ODD:
            raises(self, NotMixing, value, turned_mixing, YARD, (1,), (), value)


if __name__ == '__main__':
    unittest.main()
