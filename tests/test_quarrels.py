"""Section 18: samples that quarrel."""

import unittest

from dyedpours.errors import BadNumbers
from dyedpours.lots import fitting, shows_fitting
from dyedpours.needless import by_samples
from dyedpours.quarrels import blamed, mended, quarrels, shows_mended, shows_torn, torn
from dyedpours.yards import Yard
from tests.helpers import EMPTY, LARGE, NONE, ODD, TWO, YARD, gives, lots_of, raises, some_yards
from tests.test_mixings import NO_MIXINGS
from tests.test_needless import NO_NUMBERS, rows_by

BAD = NONE.with_sample(('least', 3, ('by', 4))).with_sample(('most', 1, ('in', 'a', 3)))
ONE = YARD.with_sample(('least', 3, ('by', 3)))

# Six samples of which all quarrel with one another, or with themselves.
SIX = Yard(YARD.text + '\nis 0 by 3\nis 1 by 3\nis 2 by 3\nleast 9 by 2\nmost 3 by 1\nleast 1 by 0')


def others_of(yard, numbers):
    """The numbers of all other samples."""
    return tuple(number for number in range(len(yard.samples)) if number not in numbers)


def quarrels_of(yard):
    """All least torn tuples, each tuple and each one left out of it tried."""
    torn_ones = {numbers for numbers in lots_of(len(yard.samples)) if not rows_by(yard, numbers)}
    return sorted(
        numbers for numbers in torn_ones
        if not any(tuple(its for its in numbers if its != number) in torn_ones for number in numbers)
    )


class Quarrels(unittest.TestCase):
    def test_the_example(self):
        gives(self, ((0, 1), (0, 2), (1, 3), (2, 3)), quarrels, BAD)
        gives(self, (0, 3), lambda: mended(BAD)[0])
        gives(self, 'mixing', lambda: torn(BAD, (0,))[0])
        gives(self, (2, 2, 2, 2), blamed, BAD)

    def test_small_yards(self):
        met = []
        for yard in some_yards(90, 300) + some_torn_yards():
            known = quarrels_of(yard)
            met.extend([len(numbers) for numbers in known])
            gives(self, tuple(known), quarrels, yard=yard)
            counts = [sum(at in numbers for numbers in known) for at in range(len(yard.samples))]
            gives(self, tuple(counts), blamed, yard=yard)
        self.assertGreater(min(met.count(many) for many in (1, 2, 3)), 0)

    def test_one_alone(self):
        gives(self, ((0,),), quarrels, ONE)
        gives(self, (1,), blamed, ONE)
        gives(self, ((0,), (1,)), quarrels, YARD.with_sample(('is', 5, ('by', 1))).with_sample(('is', 3, ('by', 1))))

    def test_ascending_as_tuples(self):
        gives(self, ((0, 1), (0, 2), (1, 2), (3,), (4,), (5,)), quarrels, SIX)
        gives(self, (2, 2, 2, 1, 1, 1), blamed, SIX)
        yard = Yard(YARD.text + '\nis 2 by 3\nis 9 by 2\nis 1 by 3')
        gives(self, ((0, 2), (1,)), quarrels, yard)

    def test_none(self):
        for yard in (YARD, EMPTY, TWO, LARGE, LARGE.bare()):
            gives(self, (), quarrels, yard)
            gives(self, (0,) * len(yard.samples), blamed, yard)


def some_torn_yards():
    """The yards with some samples more, so that three quarrel."""
    more = ['is 1 by 2\nmost 0 in b 5\nmost 0 by 3', 'least 2 by 4\nleast 2 in a 5\nleast 1 by 3\nmost 3 by 2']
    return [Yard(YARD.text + '\n' + its) for its in more] + [Yard('vessels a b\n' + '\n'.join([
        'fill a 5', 'dye a 5', 'pour a b 5', 'draw a 2', 'draw b 2', 'least 2 by 3', 'least 2 by 4',
        'least 1 in a 5', 'least 1 in b 5',
    ]))]


class Torn(unittest.TestCase):
    def test_small_yards(self):
        for yard in some_yards(91, 80) + some_torn_yards() + [BAD, SIX]:
            for numbers in lots_of(len(yard.samples)):
                told = torn(yard=yard, numbers=numbers)
                gives(self, fitting(by_samples(yard, numbers)), lambda: told)
                self.assertEqual(told[0] == 'mixing', len(rows_by(yard, numbers)) > 0)
                gives(self, True, shows_torn, yard=yard, numbers=numbers, value=told)
                for value in (('mixing', (0, 4, 2, 2, 0)), ('cut', (('b', 2),)), ('cut', ()), ('spot', ('by', 3))):
                    gives(self, shows_fitting(by_samples(yard, numbers), value), shows_torn, yard, numbers, value)

    def test_wrong_values(self):
        for value in ODD + (fitting(YARD), ('cut', (('a', 3),)), ('spot', ('by', 3))):
            gives(self, False, shows_torn, NONE, (0, 1), value)
        gives(self, True, shows_torn, NONE, (0, 1), fitting(NONE))
        gives(self, False, shows_torn, NONE, (0,), fitting(NONE))
        gives(self, True, shows_torn, NONE, (), fitting(YARD))

    def test_wrong_numbers(self):
        three = TWO.with_sample(('least', 2, ('by', 2))).with_sample(('most', 4, ('by', 2)))
        for value in NO_NUMBERS:
            raises(self, BadNumbers, value, torn, three, value)
            raises(self, BadNumbers, value, shows_torn, three, value, None)
        raises(self, BadNumbers, (0,), torn, EMPTY, (0,))


class Mended(unittest.TestCase):
    def test_small_yards(self):
        for yard in some_yards(92, 200) + some_torn_yards() + [BAD, SIX, NONE, ONE]:
            first, row, reasons = told = mended(yard=yard)
            ways = lots_of(len(yard.samples))
            rows = [rows_by(yard, others_of(yard, numbers)) for numbers in ways]
            self.assertEqual(first, [numbers for numbers, its in zip(ways, rows) if its][0])
            self.assertIn(row, rows[ways.index(first)])
            self.assertEqual(len(reasons), ways.index(first))
            for numbers, reason in zip(ways, reasons):
                gives(self, True, shows_torn, yard, others_of(yard, numbers), reason)
                self.assertNotEqual(reason[0], 'mixing')
            gives(self, True, shows_mended, yard=yard, value=told)

    def test_where_some_mixing_fits(self):
        for yard in (YARD, EMPTY, TWO, LARGE, LARGE.bare()):
            gives(self, ((), fitting(yard)[1], ()), mended, yard)
            gives(self, True, shows_mended, yard, mended(yard))

    def test_five_left_out(self):
        gives(self, (0, 1, 3, 4, 5), lambda: mended(SIX)[0])
        gives(self, 1 + 6 + 15 + 20 + 15 + 3, lambda: len(mended(SIX)[2]))
        gives(self, (0,), lambda: mended(ONE)[0])
        all_wrong = Yard(YARD.text + '\nis 9 by 3\nis 8 by 3\nis 7 by 3\nleast 9 by 2\nmost 3 by 1\nleast 1 by 0')
        told = mended(all_wrong)
        gives(self, (tuple(range(6)), 63), lambda: (told[0], len(told[2])))
        gives(self, True, shows_mended, all_wrong, told)

    def test_shows_any_right_row(self):
        for row in ((0, 4, 0, 0, 3), (0, 4, 4, 2, 0), (0, 4, 2, 2, 0), (0, 4, 0, 0, 2)):
            numbers, _, reasons = mended(NONE)
            self.assertEqual(numbers, (0,))
            gives(self, row[2] == 0, shows_mended, NONE, (numbers, row, reasons))
            gives(self, False, shows_mended, NONE, ((1,), row, reasons))
            gives(self, False, shows_mended, NONE, ((1,), row, reasons + (('mixing', (0, 4, 0, 0, 2)),)))

    def test_shows_nothing_else(self):
        numbers, row, reasons = told = mended(BAD)
        gives(self, True, shows_mended, BAD, told)
        wrong = [
            list(told), told[:2], told + ((),), (list(numbers), row, reasons), (numbers, list(row), reasons), (told,),
            (numbers, row, list(reasons)), (numbers, row, reasons[:-1]), (numbers, row, reasons + reasons[:1]),
            (numbers, row, ()), ((0, 2), row, reasons), ((1, 2), row, reasons), ((), row, reasons), ((), row, ()),
            (numbers, row, (('mixing', row),) + reasons[1:]), (numbers, row, reasons[:-1] + (('mixing', row),)),
            (numbers, row, (list(reasons[0]),) + reasons[1:]), ((0, 1, 3), row, reasons), (row, numbers, reasons),
            (numbers, reasons, row), ((3, 0), row, reasons), ((False, 3), row, reasons),
            (numbers, row, None),
        ]
        wrong += [(numbers, value, reasons) for value in NO_MIXINGS] + [(value, row, reasons) for value in ODD]
        wrong += [(numbers, row, value) for value in ODD]
        wrong += [(numbers, row, reasons[:2] + (value,) + reasons[3:]) for value in ODD]
        for value in ODD + tuple(wrong):
            gives(self, False, shows_mended, BAD, value)

    def test_shows_each_reason_for_its_tuple_alone(self):
        numbers, row, reasons = mended(BAD)
        ways, met = lots_of(4), []
        for at, numbers_ahead in enumerate(ways[:len(reasons)]):
            for reason in reasons:
                right = shows_torn(BAD, others_of(BAD, numbers_ahead), reason)
                met.append(right)
                told = reasons[:at] + (reason,) + reasons[at + 1:]
                gives(self, right, shows_mended, BAD, (numbers, row, told))
        self.assertGreater(min(met.count(True), met.count(False)), 5)

    def test_shows_no_reason_that_is_a_mixing(self):
        row = (0, 4, 0, 0, 2)
        gives(self, False, shows_mended, YARD.with_sample(('is', 0, ('by', 2))), ((0,), row, (('mixing', row),)))
        gives(self, True, shows_mended, YARD.with_sample(('is', 0, ('by', 2))), ((), row, ()))


if __name__ == '__main__':
    unittest.main()
