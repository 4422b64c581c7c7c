"""Section 4: yards."""

import unittest

from dyedpours.errors import (
    BadMoment, BadSample, BadSpot, BadStep, BadYard, Full, NoSample, NoVessel, Told,
)
from dyedpours.yards import Yard
from tests.helpers import EMPTY, LARGE, ODD, TEXT, TWO, YARD, gives, raises, same

LONG = '\n'.join(['vessels a'] + ['fill a 1'] * 14)


class Texts(unittest.TestCase):
    def test_the_example(self):
        self.assertTrue(same(YARD.vessels, ('a', 'b')))
        self.assertTrue(same(YARD.steps, (
            ('fill', 'a', 6), ('dye', 'a', 4), ('pour', 'a', 'b', 5), ('draw', 'b', 2), ('draw', 'a', 3),
        )))
        self.assertTrue(same(YARD.ends, (('in', 'a', 5), ('in', 'b', 5), ('by', 3), ('by', 4))))
        self.assertTrue(same((YARD.text, YARD.samples), (TEXT, ())))
        gives(self, 5, len, YARD)

    def test_samples_are_read(self):
        yard = Yard(TEXT + '\nis 2 by 3\nleast 0 in b 5\nmost 9999 in a 1\nmost 9999 in a 2')
        self.assertTrue(same(yard.samples, (
            ('is', 2, ('by', 3)), ('least', 0, ('in', 'b', 5)), ('most', 9999, ('in', 'a', 1)),
            ('most', 9999, ('in', 'a', 2)),
        )))

    def test_a_yard_without_steps(self):
        self.assertTrue(same((EMPTY.steps, EMPTY.samples), ((), ())))
        self.assertTrue(same(EMPTY.ends, (('in', 'a', 0), ('in', 'b', 0))))
        gives(self, 0, len, EMPTY)

    def test_any_word_of_letters_is_a_name(self):
        yard = Yard('vessels vessels fill by in\nfill fill 3\npour fill by 2\ndraw by 1\nis 0 in in 3\nis 1 by 2')
        self.assertTrue(same(yard.steps, (('fill', 'fill', 3), ('pour', 'fill', 'by', 2), ('draw', 'by', 1))))
        self.assertTrue(same(yard.samples, (('is', 0, ('in', 'in', 3)), ('is', 1, ('by', 2)))))

    def test_what_is_no_string(self):
        for value in ODD:
            if not isinstance(value, str):
                raises(self, BadYard, 0, Yard, value)
        raises(self, BadYard, 0, Yard, text=None)

    def test_lines_of_vessels(self):
        for line in ('vessels a', 'vessels abcdefgh', 'vessels a b c d e f', 'vessels aa a'):
            self.assertEqual(Yard(line).vessels, tuple(line.split(' ')[1:]))
        wrong = (
            '', ' ', 'vessels', 'vessels ', 'vessels a ', ' vessels a', 'vessels  a', 'vessels a  b', 'Vessels a',
            'vessel a', 'vessels abcdefghi', 'vessels a b a', 'vessels a b c d e f g', 'vessels A', 'vessels a1',
            'vessels a-b', 'fill a 1', 'vessels\ta', 'vessels a,b', 'vessels 1', '\nvessels a',
        )
        for line in wrong:
            raises(self, BadYard, 1, Yard, line)
            raises(self, BadYard, 1, Yard, line + '\nwrong')

    def test_lines_of_steps(self):
        for line in ('fill a 1', 'fill b 99', 'dye a 99', 'pour a b 7', 'draw a 7', 'draw a 1'):
            self.assertEqual(len(Yard('vessels a b\nfill a 7\n' + line)), 2, line)
        wrong = (
            '', ' ', 'fill', 'fill a', 'fill 3', 'fill a 0', 'fill a 100', 'fill a -1', 'fill a 03', 'fill a +3',
            'fill a 3 ', ' fill a 3', 'fill  a 3', 'fill a  3', 'fill a 3.0', 'fill a 1_0', 'fill a x', 'fill a ',
            'fill c 3', 'fill a b 3', 'Fill a 3', 'dye a 0', 'dye a 100', 'dye c 3', 'dye a b 1', 'pour a 3',
            'pour a b', 'pour a a 3', 'pour a b 0', 'pour a b 8', 'pour b a 1', 'pour a c 3', 'pour c a 3',
            'pour a b 100', 'pour a b 3 3', 'draw a 8', 'draw a 0', 'draw b 1', 'draw c 1', 'draw a', 'draw a b 3',
            'vessels a', 'spill a 3', 'fill a 3\t', 'fill a -0', 'fill a --3',
        )
        for line in wrong:
            raises(self, BadYard, 3, Yard, 'vessels a b\nfill a 7\n' + line)
            raises(self, BadYard, 3, Yard, 'vessels a b\nfill a 7\n' + line + '\nfill a 0')

    def test_lines_of_samples(self):
        for line in ('is 0 by 0', 'least 9999 by 4', 'most 1 in a 1', 'is 3 in b 5', 'most 0 by 2'):
            self.assertEqual(len(Yard(TEXT + '\n' + line).samples), 1, line)
        wrong = (
            'is', 'is 1', 'is 1 by', 'is by 1', 'is -1 by 1', 'is 10000 by 1', 'is 01 by 1', 'is 1 by 5', 'is 1 by -1',
            'is 1 by 00', 'is 1 in a 0', 'is 1 in a 6', 'is 1 in c 1', 'is 1 in a', 'is 1 in 1', 'is 1 by 1 ',
            'is  1 by 1', 'is 1 by a', 'is 1 on a 1', 'was 1 by 1', 'Is 1 by 1', 'is 1 by a 1', 'is 1 in a 1 1',
            'is 1 in a -1', 'is x by 1', '',
        )
        for line in wrong:
            raises(self, BadYard, 7, Yard, TEXT + '\n' + line)

    def test_steps_stand_ahead_of_samples(self):
        raises(self, BadYard, 8, Yard, TEXT + '\nis 0 by 0\nfill a 1')
        raises(self, BadYard, 2, Yard, 'vessels a\nis 0 by 0\nfill a 1')
        raises(self, BadYard, 2, Yard, 'vessels a\nis 0 in a 0')
        raises(self, BadYard, 3, Yard, 'vessels a\nfill a 1\nis 0 by 1\nfill a 1')

    def test_no_more_than_fourteen_steps(self):
        self.assertEqual(len(Yard(LONG)), 14)
        raises(self, BadYard, 16, Yard, LONG + '\nfill a 1')
        self.assertEqual(Yard(LONG + '\nis 0 by 13').samples, (('is', 0, ('by', 13)),))

    def test_no_more_than_six_samples_no_two_alike(self):
        samples = ['is %d by 1' % number for number in range(6)]
        text = '\n'.join([TEXT] + samples)
        self.assertEqual(len(Yard(text).samples), 6)
        raises(self, BadYard, 13, Yard, text + '\nis 6 by 1')
        raises(self, BadYard, 13, Yard, text + '\nis 0 by 1')
        raises(self, BadYard, 9, Yard, '\n'.join([TEXT, 'is 1 by 1', 'is 2 by 1', 'is 1 by 1']))

    def test_vessels_and_draws_are_nine_at_most(self):
        for vessels in ('a', 'a b c', 'a b c d e f'):
            draws = 9 - len(vessels.split())
            text = '\n'.join(['vessels ' + vessels, 'fill a 99'] + ['draw a 1'] * draws)
            self.assertEqual(len(Yard(text).ends), 9)
            raises(self, BadYard, 3 + draws, Yard, text + '\ndraw a 1')

    def test_the_first_wrong_line_is_told(self):
        raises(self, BadYard, 2, Yard, TEXT.replace('fill a 6', 'fill a 0').replace('draw b 2', 'draw b 0'))
        raises(self, BadYard, 4, Yard, TEXT.replace('fill a 6', 'fill a 1').replace('dye a 4', 'dye a 3'))
        raises(self, BadYard, 7, Yard, TEXT + '\n')
        raises(self, BadYard, 7, Yard, TEXT + '\n\n')


class Comparing(unittest.TestCase):
    def test_equal_texts(self):
        self.assertTrue(YARD == Yard(TEXT))
        self.assertFalse(YARD != Yard(TEXT))
        self.assertFalse(YARD == TWO)
        self.assertTrue(YARD != Yard(TEXT.replace('fill a 6\ndye a 4', 'dye a 4\nfill a 6')))

    def test_nothing_else(self):
        for value in ODD + (TEXT, YARD.steps):
            if not isinstance(value, Yard):
                self.assertFalse(YARD == value)
                self.assertTrue(YARD != value)

    def test_names_of_vessels_are_in_a_yard(self):
        gives(self, True, YARD.__contains__, 'a')
        for value in ODD + ('c', 'ab', ('a',), ['a'], ('a', 'b'), 0, b'a'):
            self.assertFalse(value in YARD)
            self.assertTrue(value not in YARD)


class Amounts(unittest.TestCase):
    def test_the_example(self):
        gives(self, 5, YARD.amount, ('by', 2))
        gives(self, 5, YARD.amount, ('in', 'a', 3))
        gives(self, 3, YARD.level, 'b', 5)

    def test_all_spots(self):
        self.assertEqual([YARD.amount(('by', step)) for step in range(5)], [6, 4, 5, 2, 3])
        self.assertEqual([YARD.amount(('in', 'a', at)) for at in range(1, 6)], [6, 10, 5, 5, 2])
        self.assertEqual([YARD.level('b', at) for at in range(6)], [0, 0, 0, 5, 3, 3])
        gives(self, 6, YARD.level, vessel='a', moment=1)
        gives(self, 0, EMPTY.level, 'a', 0)

    def test_no_spots(self):
        wrong = (('by', 5), ('in', 'a', 6), ('in', 'b', 0), ('in', 'c', 1), ('in', 'a', '1'), ('on', 'a', 1), ('in', 1))
        for value in ODD + wrong:
            raises(self, BadSpot, value, YARD.amount, value)
            raises(self, BadSpot, value, YARD.amount, spot=value)
        for value in EMPTY.ends + (('by', 0), ('in', 'a', 1)):
            raises(self, BadSpot, value, EMPTY.amount, value)

    def test_no_levels(self):
        for value in ODD + ('c', ('a',)):
            raises(self, NoVessel, value, YARD.level, value, 0)
            raises(self, NoVessel, value, YARD.level, value, None)
            raises(self, BadMoment, value, YARD.level, 'a', value)
        raises(self, BadMoment, 6, YARD.level, 'a', 6)
        raises(self, BadMoment, -1, YARD.level, 'a', -1)
        raises(self, BadMoment, 1, EMPTY.level, 'a', 1)


class Steps(unittest.TestCase):
    def test_a_step_more(self):
        for step in (('fill', 'b', 99), ('dye', 'a', 1), ('pour', 'b', 'a', 3), ('draw', 'a', 2)):
            yard = TWO.with_step(step)
            self.assertTrue(same(yard.steps, TWO.steps + (step,)))
            self.assertTrue(same(yard.samples, TWO.samples))
        gives(self, Yard('vessels a b\nfill a 1'), EMPTY.with_step, step=('fill', 'a', 1))
        self.assertEqual(YARD.text, TEXT)

    def test_samples_stay(self):
        yard = YARD.with_sample(('is', 1, ('in', 'a', 5))).with_step(('fill', 'a', 1))
        self.assertEqual(yard.text, TEXT + '\nfill a 1\nis 1 in a 5')

    def test_no_step(self):
        wrong = (
            ['fill', 'a', 1], ('fill', 'a', True), ('fill', 'a', 0), ('fill', 'a', 100), ('fill', 'c', 1), ('fill', 'a'),
            ('fill', 'a', '1'), ('fill', ['a'], 1), ('fill', 'a', 'b', 1), ('pour', 'a', 1), ('pour', 'a', 'a', 1),
            ('pour', 'a', 'b', 3), ('pour', 'b', 'a', 4), ('draw', 'a', 3), ('draw', 'b', 4), ('draw', 'a', 'b', 1),
            ('Fill', 'a', 1), 'fill a 1', ('fill', 'a', 1, 1), ('spill', 'a', 1), (None, 'a', 1), ('fill', 'a', None),
            ('pour', 'a', 'b', False), (['fill'], 'a', 1), ('dye', YARD, 1), ('fill', ('a',), 1),
        )
        for value in ODD + wrong:
            raises(self, BadStep, value, YARD.with_step, value)

    def test_no_draw_beyond_nine(self):
        yard = Yard('vessels a b c d e f\nfill a 9\ndraw a 1\ndraw a 1')
        self.assertEqual(len(yard.with_step(('draw', 'a', 1)).ends), 9)
        raises(self, BadStep, ('draw', 'a', 1), yard.with_step(('draw', 'a', 1)).with_step, ('draw', 'a', 1))

    def test_bad_step_ahead_of_full(self):
        full = Yard(LONG)
        raises(self, Full, 14, full.with_step, ('fill', 'a', 1))
        raises(self, Full, 14, full.with_step, ('draw', 'a', 14))
        raises(self, BadStep, ('draw', 'a', 15), full.with_step, ('draw', 'a', 15))
        raises(self, BadStep, None, full.with_step, None)
        text = '\n'.join(['vessels a b c d e f'] + ['fill a 9'] * 11 + ['draw a 1'] * 3)
        raises(self, BadStep, ('draw', 'a', 1), Yard(text).with_step, ('draw', 'a', 1))
        raises(self, Full, 14, Yard(text).with_step, ('pour', 'a', 'b', 1))
        yard = Yard('\n'.join(['vessels a'] + ['fill a 1'] * 13))
        self.assertEqual(len(yard.with_step(('fill', 'a', 1))), 14)


class Samples(unittest.TestCase):
    def test_a_sample_more(self):
        self.assertTrue(same(YARD.with_sample(('least', 1, ('by', 3))).samples, (('least', 1, ('by', 3)),)))
        yard = TWO.with_sample(sample=('most', 9999, ('in', 'b', 5)))
        self.assertEqual(yard.text, TEXT + '\nis 2 by 3\nmost 9999 in b 5')
        self.assertEqual(TWO.with_sample(('least', 2, ('by', 3))).text, TEXT + '\nis 2 by 3\nleast 2 by 3')

    def test_no_sample(self):
        wrong = (
            ['is', 0, ('by', 0)], ('is', 0, ['by', 0]), ('is', True, ('by', 0)), ('is', 0, ('by', False)),
            ('is', -1, ('by', 0)), ('is', 10000, ('by', 0)), ('is', 0, ('by', 5)), ('is', 0, ('in', 'a', 0)),
            ('is', 0, ('in', 'a', 6)), ('was', 0, ('by', 0)), ('is', 0), ('is', 0, 'by', 0), ('is', '0', ('by', 0)),
            'is 0 by 0', (None, 0, ('by', 0)), ('is', None, ('by', 0)), ('is', 0, None), ('is', 0, ('in', 'c', 1)),
        )
        for value in ODD + wrong:
            raises(self, BadSample, value, YARD.with_sample, value)
        raises(self, BadSample, ('is', 0, ('by', 0)), EMPTY.with_sample, ('is', 0, ('by', 0)))

    def test_bad_sample_then_told_then_full(self):
        yard = YARD
        for number in range(6):
            raises(self, BadSample, ('is', True, ('by', 1)), yard.with_sample, ('is', True, ('by', 1)))
            yard = yard.with_sample(('is', number, ('by', 1)))
            raises(self, Told, number, yard.with_sample, ('is', number, ('by', 1)))
            raises(self, Told, 0, yard.with_sample, ('is', 0, ('by', 1)))
        raises(self, Full, 6, yard.with_sample, ('is', 6, ('by', 1)))
        raises(self, BadSample, None, yard.with_sample, None)

    def test_a_sample_less(self):
        yard = Yard(TEXT + '\nis 0 by 0\nis 1 by 1\nis 2 by 2')
        self.assertEqual(yard.without_sample(1).text, TEXT + '\nis 0 by 0\nis 2 by 2')
        self.assertEqual(yard.without_sample(number=0).without_sample(1).text, TEXT + '\nis 1 by 1')
        for value in ODD + (3,):
            raises(self, NoSample, value, yard.without_sample, value)
        raises(self, NoSample, 0, YARD.without_sample, 0)

    def test_bare(self):
        self.assertEqual(LARGE.bare().text, '\n'.join(LARGE.text.split('\n')[:15]))
        self.assertEqual(TWO.bare(), YARD)
        self.assertEqual(YARD.bare(), YARD)


if __name__ == '__main__':
    unittest.main()
