"""Section 30: a desk."""

import unittest

from dyedpours.desk import Desk
from dyedpours.errors import (
    BadAmount, BadJournal, BadLine, BadSample, BadSpot, Full, NothingToRedo, NothingToUndo, NoVessel, Same,
    Told, TooLittle, Torn,
)
from dyedpours.journals import journal
from dyedpours.lots import fitting
from dyedpours.moves import all_spots
from dyedpours.wharves import Wharf
from tests.helpers import ODD, TWO, YARD, gives, raises, some_yards
from tests.test_journals import GOOD_LINES, HEAD, NO_LINES, line_of
from tests.test_wharves import DEEDS, do, told_of, wharf_by, wharf_of

TEXT = journal(wharf_of(('a', 'b'), DEEDS))
NO_FORMS = (
    '', ' ', 'fill', 'fill a', 'fill a 6 1', 'fill  a 6', ' fill a 6', 'fill a 6 ', 'Fill a 6', 'fill a 06', 'fill a +6',
    'fill a x', 'fill a 6.0', 'fill a -0', 'dye a', 'dye  1', 'pour a b', 'pour a b c 1', 'pour a 1', 'pour a b 01', 'draw a',
    'draw a b 1', 'sample', 'sample is', 'sample is 4', 'sample is 4 by', 'sample  is 4 by 1', 'sample is 04 by 1',
    'sample is 4 by 01', 'sample is 4 in a', 'sample Is 4 by 1', 'is 4 by 1', 'sample is 4 on a 2', 'sample is 4 by a 1',
    'sample is 4 in a b 2', 'sample is x by 1', 'undo ', ' undo', 'undo 1', 'Undo', 'redo a', 'redo redo', 'done 1', 'done ',
    'now', 'now ', 'now  a', 'now a ', 'now a b', 'Now a', 'most', 'most by', 'most by 01', 'most by x', 'most  by 1',
    'most by 1 ', 'most a 1', 'most in a', 'most in a 01', 'most in a b 1', 'most in  1', 'Most by 1', 'least', 'least 1 by 1',
    'least by +1', 'least in a 1 1', 'keep', 'trial', 'copy', 'vessels a b', 'fill a 1\n', '\nfill a 1', 'fill a 1\nundo',
    'done\n', 'most by 1\nmost by 1', 'now a\nb', 'most in a\nb 1', 'fill a\n 1', 'pour a b\n 1', 'now \n', 'now a\tb c', 'len', 'yard', 'undo undo', 'sample', 'sample undo', 'most is 1 by 1',
    'on a 1', 'by 1', 'most on a 1', 'least on 1', 'sample most by 1',
)


class Says(unittest.TestCase):
    def says(self, desk, line, answer):
        """This is answered to the line."""
        gives(self, answer, desk.say, line)

    def test_the_example(self):
        desk = Desk(TEXT)
        lines = ('now b', 'sample is 2 by 3', 'now b', 'least by 2', 'undo', 'most in a 5', 'done')
        gives(self, ['0 3', 'ok', '0 2', '2', 'ok', '2', '5'], lambda: [desk.say(line) for line in lines])
        gives(self, TEXT, lambda: journal(desk.wharf))

    def test_the_lines_of_deeds(self):
        desk, wharf = Desk(text='vessels a b'), Wharf(('a', 'b'))
        for deed in DEEDS + (('is', 2, ('by', 3)), ('most', 4, ('in', 'a', 4))):
            told = do(wharf, deed)
            gives(self, 'ok' if told is None else str(told), desk.say, line=line_of(deed))
            self.assertEqual(desk.wharf, wharf)
        for line in GOOD_LINES:
            desk = Desk(HEAD[:-1])
            gives(self, '2' if line.startswith('draw') else 'ok', desk.say, line)
            gives(self, HEAD + line, lambda: journal(desk.wharf))

    def test_undo_and_redo(self):
        desk = Desk(TEXT)
        for _ in range(5):
            self.says(desk, 'undo', 'ok')
        raises(self, NothingToUndo, None, desk.say, 'undo')
        self.says(desk, 'done', '0')
        self.says(desk, 'now a', '0 0')
        for number in range(1, 6):
            self.says(desk, 'redo', 'ok')
            self.says(desk, 'done', str(number))
        raises(self, NothingToRedo, None, desk.say, 'redo')
        self.assertEqual(desk.wharf.yard, YARD)

    def test_answers_of_small_yards(self):
        for yard in some_yards(250, 80):
            if fitting(yard)[0] != 'mixing':
                continue
            wharf = wharf_by(yard)
            desk = Desk(journal(wharf))
            for spot in all_spots(yard)[::3]:
                line = ' '.join(str(part) for part in spot)
                self.says(desk, 'most ' + line, str(wharf.most(spot)))
                self.says(desk, 'least ' + line, str(wharf.least(spot)))
            for vessel in yard.vessels:
                self.says(desk, 'now ' + vessel, '%d %d' % wharf.now(vessel))
            self.says(desk, 'done', str(wharf.done))
            self.assertEqual(desk.wharf, wharf)

    def test_the_very_wharf(self):
        desk = Desk(TEXT)
        wharf = desk.wharf
        self.says(desk, 'fill b 9', 'ok')
        self.assertIs(desk.wharf, wharf)
        gives(self, 6, lambda: wharf.done)
        wharf.undo()
        self.says(desk, 'done', '5')
        self.says(desk, 'redo', 'ok')
        with desk.wharf.trial():
            self.says(desk, 'sample is 2 by 3', 'ok')
            self.says(desk, 'now b', '0 2')
            self.says(desk, 'undo', 'ok')
            self.says(desk, 'undo', 'ok')
            self.says(desk, 'done', '5')
        self.says(desk, 'done', '6')
        self.assertIn('wharf', vars(desk))

    def test_errors_of_the_wharf(self):
        desk = Desk(TEXT)
        desk.say('undo')
        ahead = told_of(desk.wharf)
        for line, error, value in (
            ('fill c 0', NoVessel, 'c'), ('fill a 0', BadAmount, 0), ('dye a 100', BadAmount, 100), ('dye a -5', BadAmount, -5),
            ('pour c d 0', NoVessel, 'c'), ('pour a d 0', NoVessel, 'd'), ('pour a a 0', Same, 'a'), ('pour a b 0', BadAmount, 0),
            ('pour a b 6', TooLittle, 5), ('draw A 1', NoVessel, 'A'), ('draw a 100', BadAmount, 100), ('draw b 4', TooLittle, 3),
            ('sample is 10000 by 1', BadSample, ('is', 10000, ('by', 1))), ('sample is -1 by 1', BadSample, ('is', -1, ('by', 1))),
            ('sample is 1 by 4', BadSample, ('is', 1, ('by', 4))), ('sample most 1 by -1', BadSample, ('most', 1, ('by', -1))),
            ('sample least 1 in q 1', BadSample, ('least', 1, ('in', 'q', 1))), ('now q', NoVessel, 'q'),
            ('sample is 1 in a 0', BadSample, ('is', 1, ('in', 'a', 0))), ('now 1', NoVessel, '1'),
            ('sample is 1 in a 99', BadSample, ('is', 1, ('in', 'a', 99))), ('most by 4', BadSpot, ('by', 4)),
            ('least by -1', BadSpot, ('by', -1)), ('most in a 0', BadSpot, ('in', 'a', 0)), ('least in Q! 1', BadSpot, ('in', 'Q!', 1)),
            ('most in a 5', BadSpot, ('in', 'a', 5)), ('sample is 3 by 1', Torn, ('spot', ('by', 1))), ('now \t', NoVessel, '\t'),
            ('now now', NoVessel, 'now'), ('fill fill 1', NoVessel, 'fill'), ('fill , 1', NoVessel, ','),
        ):
            raises(self, error, value, desk.say, line)
            self.assertEqual(told_of(desk.wharf), ahead)
        self.says(desk, 'redo', 'ok')
        self.says(desk, 'sample is 2 by 3', 'ok')
        raises(self, Told, 0, desk.say, 'sample is 2 by 3')
        self.assertEqual(desk.wharf.yard, TWO)
        for _ in range(9):
            desk.say('fill a 1')
        raises(self, Full, 14, desk.say, 'fill a 1')
        raises(self, BadSpot, ('by', 14), desk.say, 'most by 14')

    def test_lines_without_a_form(self):
        desk = Desk(TEXT)
        desk.say('undo')
        ahead = told_of(desk.wharf)
        for value in tuple(value for value in ODD if value != 'done') + NO_FORMS + (['done'], ('undo',), b'done', YARD, desk):
            raises(self, BadLine, value, desk.say, value)
        self.assertEqual(told_of(desk.wharf), ahead)

    def test_no_journals(self):
        for line in NO_LINES:
            raises(self, BadJournal, 4, Desk, HEAD + line)
        for value in ODD:
            raises(self, BadJournal, 0 if not isinstance(value, str) else 1, Desk, value)
        raises(self, BadJournal, 1, Desk, text='vessels')


if __name__ == '__main__':
    unittest.main()
