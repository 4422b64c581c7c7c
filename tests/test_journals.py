"""Section 29: journals."""

import random
import unittest

from dyedpours.errors import BadJournal
from dyedpours.forms import sample_line, step_line
from dyedpours.journals import journal, read_journal
from dyedpours.lots import fitting
from dyedpours.wharves import Wharf
from tests.helpers import LARGE, ODD, TWO, YARD, gives, raises, some_yards
from tests.test_wharves import DEEDS, told_of, wharf_by, wharf_of

HEAD = 'vessels a b\nfill a 6\ndye a 4\n'
NO_LINES = (
    '', ' ', 'fill', 'fill a', 'fill a 6 1', 'fill  a 6', ' fill a 6', 'fill a 6 ', 'Fill a 6', 'fill a 06', 'fill a +6',
    'fill a 6.0', 'fill a x', 'fill a', 'fill c 6', 'fill a 0', 'fill a 100', 'fill a -1', 'fill a -0', 'dye a 0', 'dye b',
    'dye q 1', 'pour a b', 'pour a b 0', 'pour a b 11', 'pour b a 1', 'pour a a 1', 'pour a c 1', 'pour c a 1',
    'pour a b c 1', 'pour a b 01', 'draw a 11', 'draw b 1', 'draw a 0', 'draw q 1', 'draw a b 1', 'sample', 'sample ',
    'sample is', 'sample is 4', 'sample is 4 by', 'sample is 4 by 2', 'sample is 4 by 1 ', 'sample  is 4 by 1',
    'sample is  4 by 1', 'sample is 04 by 1', 'sample is 4 by 01', 'sample is 4 by -1', 'sample is -1 by 1',
    'sample is 10000 by 1', 'sample most 3 by 1', 'sample is 4 in a 1', 'sample is 4 in a 3', 'sample is 4 in c 2',
    'sample is 4 in a 0', 'sample is 4 in a', 'sample Is 4 by 1', 'is 4 by 1', 'sample is 4 on a 2', 'sample is 4 by a 1',
    'sample sample is 4 by 1', 'sample is 4 in a b 2', 'sample is x by 1', 'sample is 4 by x', 'undo', 'redo', 'done',
    'now a', 'most by 1', 'vessels a b', 'vessels', 'fill\ta 6', 'fill a 6\t', 'sample is 4 in  2', 'fill  6', 'draw  1',
    'step fill a 6', 'fill by 1', 'sample fill a 6', '-', 'sample is 4 in a 02', 'pour  b 1', 'fill a --6', 'fill a -',
)
GOOD_LINES = (
    'fill a 1', 'fill b 99', 'dye a 99', 'dye b 1', 'pour a b 10', 'pour a b 1', 'draw a 10', 'draw a 1', 'sample is 4 by 1',
    'sample most 9999 by 1', 'sample least 0 in b 1', 'sample is 4 in a 2', 'sample least 1 in a 2', 'sample is 0 by 0',
)


def line_of(deed):
    """The line of a deed."""
    return 'sample ' + sample_line(deed) if deed[0] in ('is', 'least', 'most') else step_line(deed)


class Journals(unittest.TestCase):
    def test_the_example(self):
        wharf = wharf_of(('a', 'b'), DEEDS)
        gives(self, True, lambda: read_journal(journal(wharf)) == wharf)
        gives(self, ['pour a b 5', 'draw b 2', 'draw a 3'], lambda: journal(wharf).split('\n')[3:])

    def test_lines(self):
        gives(self, 'vessels a bb', journal, Wharf(('a', 'bb')))
        deeds = DEEDS[:3] + (('least', 2, ('by', 2)),) + DEEDS[3:] + (('is', 2, ('in', 'b', 4)),)
        wharf = wharf_of(('a', 'b'), deeds)
        text = HEAD + 'pour a b 5\nsample least 2 by 2\ndraw b 2\ndraw a 3\nsample is 2 in b 4'
        gives(self, text, journal, wharf=wharf)
        self.assertEqual(read_journal(text=text), wharf)
        wharf.undo(), wharf.undo()
        gives(self, text.rsplit('\n', 2)[0], journal, wharf)

    def test_wharves_of_small_yards(self):
        dice, met = random.Random(240), 0
        for yard in some_yards(240, 150) + [LARGE, TWO]:
            if fitting(yard)[0] != 'mixing':
                continue
            wharf = wharf_by(yard)
            for _ in range(dice.choice((0, 0, 1, 3))):
                if wharf.done:
                    wharf.undo()
            text = journal(wharf)
            lines = ['vessels ' + ' '.join(wharf.vessels)] + [line_of(deed) for deed in wharf.deeds]
            gives(self, '\n'.join(lines), lambda: text)
            found = read_journal(text)
            self.assertEqual(found, wharf)
            self.assertEqual(found.yard, wharf.yard)
            gives(self, text, journal, found)
            met += len(wharf.yard.samples) > 1
        self.assertGreater(met, 10)

    def test_what_was_undone_is_not_there(self):
        wharf = wharf_of(('a', 'b'), DEEDS)
        wharf.undo()
        found = read_journal(journal(wharf))
        self.assertEqual(told_of(found)[:2], told_of(wharf)[:2])
        self.assertEqual(len(told_of(found)[2][0]), 1)

    def test_lines_that_may_stand_there(self):
        for line in GOOD_LINES:
            for more in ('', '\nfill b 2'):
                wharf = read_journal(HEAD + line + more)
                gives(self, HEAD + line + more, journal, wharf)

    def test_lines_that_may_not(self):
        for line in NO_LINES:
            raises(self, BadJournal, 4, read_journal, HEAD + line)
            raises(self, BadJournal, 4, read_journal, HEAD + line + '\nfill a 1')
            raises(self, BadJournal, 4, read_journal, HEAD + line + '\nfill a 0')
            raises(self, BadJournal, 2, read_journal, 'vessels a b\nq\n' + line)

    def test_the_first_wrong_line(self):
        lines = journal(wharf_of(('a', 'b'), DEEDS + (('is', 2, ('by', 3)), ('most', 4, ('by', 2))))).split('\n')
        for number in range(len(lines)):
            its = lines[:number] + ['no'] + lines[number:]
            raises(self, BadJournal, number + 1, read_journal, '\n'.join(its))
        raises(self, BadJournal, 7, read_journal, '\n'.join(lines[:4] + lines[3:4] + lines[4:]))
        raises(self, BadJournal, 8, read_journal, '\n'.join(lines[:7] + lines[6:7]))
        raises(self, BadJournal, 8, read_journal, '\n'.join(lines[:7] + ['sample is 0 by 2']))
        raises(self, BadJournal, len(lines) + 1, read_journal, '\n'.join(lines) + '\n')
        raises(self, BadJournal, 1, read_journal, '\n' + '\n'.join(lines))

    def test_the_line_of_the_vessels(self):
        for line in (
            '', 'vessels', 'vessels ', 'vessels a a', 'vessels a  b', ' vessels a', 'vessels a ', 'vessels A', 'vessels a1',
            'vessels abcdefghi', 'Vessels a', 'vessel a', 'vessels a b c d e f g', 'fill a 1', 'a b', 'sample is 1 by 0',
            'vessels  a', 'vessels a,b',
        ):
            raises(self, BadJournal, 1, read_journal, line)
            raises(self, BadJournal, 1, read_journal, line + '\nq')
        for line in ('vessels a', 'vessels a b c d e f', 'vessels abcdefgh vessels', 'vessels sample by in fill'):
            gives(self, line, lambda: journal(read_journal(line)))
        raises(self, BadJournal, 1, read_journal, '')

    def test_no_strings(self):
        for value in ODD + (['vessels a'], ('vessels a',), YARD, Wharf(('a',))):
            raises(self, BadJournal, 0 if not isinstance(value, str) else 1, read_journal, value)

    def test_vessels_with_odd_names(self):
        text = 'vessels by in is sample\nfill by 3\ndye by 2\npour by in 4\nsample least 2 in in 3\npour in is 1\ndraw sample 1'
        raises(self, BadJournal, 7, read_journal, text)
        text = text.replace('draw sample 1', 'draw is 1\nsample most 1 in by 3\nsample most 3 by 2')
        gives(self, text, lambda: journal(read_journal(text)))

    def test_as_many_deeds_as_may_be(self):
        steps = ['fill a 1'] * 14
        samples = ['sample most %d by 0' % number for number in range(6)]
        text = '\n'.join(['vessels a'] + steps + samples)
        gives(self, text, lambda: journal(read_journal(text)))
        raises(self, BadJournal, 16, read_journal, '\n'.join(['vessels a'] + steps + ['fill a 1']))
        raises(self, BadJournal, 22, read_journal, text + '\nsample most 7 by 0')
        raises(self, BadJournal, 11, read_journal, '\n'.join(['vessels a', 'fill a 99'] + ['draw a 1'] * 9))
        gives(self, 9, lambda: len(read_journal('\n'.join(['vessels a', 'fill a 99'] + ['draw a 1'] * 8))))


if __name__ == '__main__':
    unittest.main()
