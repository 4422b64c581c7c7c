"""Section 28: a wharf."""

import random
import unittest

from dyedpours.errors import (
    BadAmount, BadSample, BadSpot, BadVessels, Full, NoTrial, NothingToRedo, NothingToUndo, NoVessel, PourError, Same,
    Told, TooLittle, Torn,
)
from dyedpours.lots import fitting, highest, lowest, shows_fitting
from dyedpours.moves import all_spots
from dyedpours.wharves import Wharf
from dyedpours.yards import Yard, yard_of
from tests.helpers import LARGE, NONE, ODD, TWO, YARD, fitting_ones, gives, raises, same, some_yards, spot_dye
from tests.test_differences import NO_SPOTS
from tests.test_sure import NO_CLAIMS

NO_NAMES = ODD + ('c', 'ab', ('a',), ['a'], 'A')
NO_AMOUNTS = tuple(value for value in ODD if type(value) is not int) + (0, -1, 100, 10 ** 9, '1', (1,), [1])
NO_VESSELS = tuple(value for value in ODD if value not in (('by',), ('in', 'a'))) + (
    'a', ['a', 'b'], ('a', 'a'), ('a', 'B'), ('a', ''), ('a', 'abcdefghi'), ('a', 'a b'), ('a', 1), ('a', None), ('a', ('b',)),
    ('a', 'b', 'c', 'd', 'e', 'f', 'g'), {'a': 1}, ('a', 'b', 'a'), ('a1',), ('a', 'b_'), (True,), 'abc', ('a', ['b']),
)
DEEDS = (('fill', 'a', 6), ('dye', 'a', 4), ('pour', 'a', 'b', 5), ('draw', 'b', 2), ('draw', 'a', 3))


def do(wharf, deed):
    """Do a deed, told as a step or a sample."""
    word, *rest = deed
    if word in ('is', 'least', 'most'):
        return wharf.sample(word, *rest)
    return getattr(wharf, word)(*rest)


def wharf_of(vessels, deeds):
    """A wharf on which these deeds were done."""
    wharf = Wharf(vessels)
    for deed in deeds:
        do(wharf, deed)
    return wharf


def wharf_by(yard):
    """A wharf on which was done what the yard tells, each sample as soon as its spot is there."""
    wharf = Wharf(yard.vessels)
    for number, step in enumerate(yard.steps):
        do(wharf, step)
        for sample in yard.samples:
            spot = sample[2]
            if spot[-1] == (number if spot[0] == 'by' else number + 1):
                do(wharf, sample)
    return wharf


def yard_by(vessels, deeds):
    """The yard of the steps and samples among these deeds."""
    steps = [deed for deed in deeds if deed[0] not in ('is', 'least', 'most')]
    return yard_of(vessels, steps, [deed for deed in deeds if deed not in steps])


def texts(wharf, call):
    """The texts that come as this is called on a copy again and again, until it is refused."""
    copy, found = wharf.copy(), []
    while True:
        found.append(copy.yard.text)
        try:
            getattr(copy, call)()
        except PourError as error:
            return found, type(error), error.value


def told_of(wharf):
    """All that can be seen of a wharf."""
    seen = (wharf.vessels, wharf.yard.text, wharf.done, len(wharf))
    return seen, texts(wharf, 'undo'), texts(wharf, 'redo')


class Deeds(unittest.TestCase):
    def test_the_example(self):
        wharf = Wharf(('a', 'b'))
        gives(self, [None, None, None, 2, 3], lambda: [do(wharf, deed) for deed in DEEDS])
        self.assertEqual(wharf.yard, YARD)
        gives(self, (0, 3), wharf.now, 'b')
        gives(self, None, wharf.sample, 'is', 2, ('by', 3))
        gives(self, (0, 2), wharf.now, 'b')
        gives(self, 2, wharf.least, ('by', 2))
        gives(self, None, wharf.undo)
        gives(self, 2, wharf.most, ('in', 'a', 5))
        gives(self, 5, lambda: wharf.done)

    def test_by_name(self):
        wharf = Wharf(vessels=('a', 'b'))
        self.assertEqual([
            wharf.fill(vessel='a', amount=6), wharf.dye(vessel='a', amount=4), wharf.pour(one='a', other='b', amount=5),
            wharf.draw(vessel='b', amount=2), wharf.draw(amount=3, vessel='a'),
            wharf.sample(word='is', number=2, spot=('by', 3)), wharf.now(vessel='b'), wharf.least(spot=('by', 2)),
            wharf.most(spot=('by', 2)), wharf.tried(look=len),
        ], [None, None, None, 2, 3, None, (0, 2), 2, 4, 5])
        self.assertEqual(wharf.yard, TWO)

    def test_nothing_done_yet(self):
        wharf = Wharf(('a', 'bb'))
        gives(self, ('a', 'bb'), lambda: wharf.vessels)
        gives(self, 'vessels a bb', lambda: wharf.yard.text)
        gives(self, (0, 0), lambda: (wharf.done, len(wharf)))
        gives(self, (0, 0), wharf.now, 'bb')
        for value in NO_SPOTS:
            raises(self, BadSpot, value, wharf.most, value)
            raises(self, BadSpot, value, wharf.least, value)
        self.assertTrue('a' in wharf and 'bb' in wharf)
        for value in NO_NAMES:
            gives(self, value == 'a', lambda: value in wharf)
        for name in ('yard', 'vessels', 'done'):
            self.assertIn(name, vars(wharf))

    def test_vessels(self):
        for value in NO_VESSELS:
            raises(self, BadVessels, value, Wharf, value)
        six = ('a', 'b', 'c', 'd', 'e', 'abcdefgh')
        gives(self, six, lambda: Wharf(six).vessels)
        gives(self, ('a',), lambda: Wharf(('a',)).yard.vessels)

    def test_beside_the_yard_of_the_deeds(self):
        met = 0
        for yard in some_yards(230, 120):
            if fitting(yard)[0] != 'mixing':
                continue
            wharf = wharf_by(yard)
            self.assertEqual(wharf.done, len(yard.steps) + len(yard.samples))
            self.assertEqual(len(wharf), len(yard))
            self.assertEqual((wharf.yard.steps, set(wharf.yard.samples)), (yard.steps, set(yard.samples)))
            rows = fitting_ones(yard)
            for spot in all_spots(yard)[::3]:
                dyes = [spot_dye(yard, row, spot) for row in rows]
                gives(self, max(dyes), wharf.most, spot)
                gives(self, min(dyes), wharf.least, spot)
            for vessel in yard.vessels if len(yard) else ():
                dyes = [spot_dye(yard, row, ('in', vessel, len(yard))) for row in rows]
                gives(self, (min(dyes), max(dyes)), wharf.now, vessel)
            met += len(yard.samples) > 1
        self.assertGreater(met, 15)

    def test_samples_ahead_of_later_steps(self):
        wharf = wharf_of(('a', 'b'), DEEDS[:3] + (('least', 2, ('by', 2)),) + DEEDS[3:4] + (('is', 2, ('by', 3)),) + DEEDS[4:])
        gives(self, DEEDS, lambda: wharf.yard.steps)
        gives(self, (('least', 2, ('by', 2)), ('is', 2, ('by', 3))), lambda: wharf.yard.samples)
        gives(self, (7, 5), lambda: (wharf.done, len(wharf)))
        found = []
        while wharf.done > 2:
            wharf.undo()
            found.append((wharf.done, len(wharf), len(wharf.yard.samples)))
        self.assertEqual(found, [(6, 4, 2), (5, 4, 1), (4, 3, 1), (3, 3, 0), (2, 2, 0)])
        for _ in range(5):
            wharf.redo()
        gives(self, (7, 5, 2), lambda: (wharf.done, len(wharf), len(wharf.yard.samples)))

    def test_now_with_samples(self):
        wharf = wharf_of(('a', 'b'), DEEDS[:2])
        gives(self, (4, 4), wharf.now, 'a')
        gives(self, (0, 0), wharf.now, 'b')
        wharf.pour('a', 'b', 5)
        gives(self, (0, 4), wharf.now, 'a')
        wharf.sample('most', 3, ('in', 'b', 3))
        gives(self, (1, 4), wharf.now, 'a')
        wharf.fill('b', 1)
        gives(self, (0, 3), wharf.now, 'b')
        for value in NO_NAMES[:-5] + ('c',):
            raises(self, NoVessel, value, wharf.now, value)
        for value in NO_SPOTS:
            raises(self, BadSpot, value, wharf.most, value)
            raises(self, BadSpot, value, wharf.least, value)

    def test_the_largest_wharf(self):
        wharf = wharf_by(LARGE)
        gives(self, (20, 14), lambda: (wharf.done, len(wharf)))
        for spot in all_spots(LARGE)[::5]:
            gives(self, highest(LARGE, spot)[0], wharf.most, spot)
            gives(self, lowest(LARGE, spot)[0], wharf.least, spot)


class Refused(unittest.TestCase):
    def refused(self, wharf, error, value, call, *told):
        """The deed is refused, and nothing is otherwise then."""
        ahead = told_of(wharf)
        raises(self, error, value, getattr(wharf, call), *told)
        self.assertEqual(told_of(wharf), ahead)

    def test_sources(self):
        wharf = wharf_of(('a', 'b'), DEEDS)
        wharf.undo()
        full = wharf_of(('a', 'b'), DEEDS[:1] * 14)
        for call in ('fill', 'dye'):
            for value in NO_NAMES:
                self.refused(wharf, NoVessel, value, call, value, None)
            for value in NO_AMOUNTS:
                self.refused(wharf, BadAmount, value, call, 'a', value)
                self.refused(full, BadAmount, value, call, 'a', value)
            self.refused(full, NoVessel, 'c', call, 'c', 1)
            self.refused(full, Full, 14, call, 'a', 1)
            for amount in (1, 99):
                its = wharf.copy()
                gives(self, None, getattr(its, call), 'b', amount)
                gives(self, (call, 'b', amount), lambda: its.yard.steps[-1])

    def test_pours(self):
        wharf = wharf_of(('a', 'b', 'cc'), DEEDS)
        wharf.undo()
        full = wharf_of(('a', 'b', 'cc'), DEEDS[:1] * 14)
        for its in (wharf, full):
            for value in NO_NAMES:
                if value != 'a':
                    self.refused(its, NoVessel, value, 'pour', value, 'q', None)
                    self.refused(its, NoVessel, value, 'pour', value, 'a', 1)
                    self.refused(its, NoVessel, value, 'pour', 'a', value, None)
            self.refused(its, Same, 'a', 'pour', 'a', 'a', None)
            self.refused(its, Same, 'cc', 'pour', 'cc', 'cc', 1)
            for value in NO_AMOUNTS:
                self.refused(its, BadAmount, value, 'pour', 'a', 'b', value)
                self.refused(its, BadAmount, value, 'pour', 'cc', 'b', value)
            self.refused(its, TooLittle, 0, 'pour', 'cc', 'a', 1)
        self.refused(wharf, TooLittle, 5, 'pour', 'a', 'b', 6)
        self.refused(wharf, TooLittle, 3, 'pour', 'b', 'a', 99)
        gives(self, None, wharf.pour, 'a', 'b', 5)
        self.refused(wharf, TooLittle, 0, 'pour', 'a', 'b', 1)
        self.refused(full, TooLittle, 84, 'pour', 'a', 'b', 85)
        self.refused(full, Full, 14, 'pour', 'a', 'b', 84)

    def test_draws(self):
        wharf = wharf_of(('a', 'b'), DEEDS)
        wharf.undo()
        full = wharf_of(('a', 'b'), DEEDS[:1] * 14)
        glasses = wharf_of(('a', 'b'), DEEDS[:1] * 5 + (('draw', 'a', 1),) * 7)
        both = wharf_of(('a', 'b'), DEEDS[:1] * 7 + (('draw', 'a', 1),) * 7)
        for its in (wharf, full, glasses, both):
            for value in NO_NAMES:
                self.refused(its, NoVessel, value, 'draw', value, None)
            for value in NO_AMOUNTS:
                self.refused(its, BadAmount, value, 'draw', 'a', value)
                self.refused(its, BadAmount, value, 'draw', 'b', value)
        self.refused(wharf, TooLittle, 5, 'draw', 'a', 6)
        self.refused(full, TooLittle, 84, 'draw', 'a', 85)
        self.refused(glasses, TooLittle, 0, 'draw', 'b', 1)
        self.refused(glasses, Full, 9, 'draw', 'a', 1)
        self.refused(both, Full, 9, 'draw', 'a', 1)
        self.refused(full, Full, 14, 'draw', 'a', 84)
        gives(self, 3, wharf.draw, 'a', 5)
        self.refused(wharf, TooLittle, 0, 'draw', 'a', 1)

    def test_numbers_of_new_ends(self):
        wharf = Wharf(('a', 'b', 'c'))
        wharf.fill('a', 99)
        for number in (3, 4, 5, 6, 7, 8):
            gives(self, number, wharf.draw, 'a', 2)
            gives(self, ('by', len(wharf) - 1), lambda: wharf.yard.ends[number])
        self.refused(wharf, Full, 9, 'draw', 'a', 2)
        six = Wharf(('a', 'b', 'c', 'd', 'e', 'f'))
        six.dye('f', 3)
        gives(self, [6, 7, 8], lambda: [six.draw('f', 1) for _ in range(3)])
        self.refused(six, TooLittle, 0, 'draw', 'f', 1)

    def test_samples(self):
        wharf = wharf_of(('a', 'b'), DEEDS)
        wharf.sample('least', 1, ('by', 3))
        wharf.sample('most', 1, ('by', 4))
        wharf.undo()
        for value in NO_CLAIMS:
            if isinstance(value, tuple) and len(value) == 3:
                self.refused(wharf, BadSample, value, 'sample', *value)
            self.refused(wharf, BadSample, (value, 1, ('by', 3)), 'sample', value, 1, ('by', 3))
            self.refused(wharf, BadSample, ('is', 1, value), 'sample', 'is', 1, value)
            if type(value) is not int:
                self.refused(wharf, BadSample, ('is', value, ('by', 3)), 'sample', 'is', value, ('by', 3))
        self.refused(wharf, Told, 0, 'sample', 'least', 1, ('by', 3))
        self.refused(wharf, BadSample, ('is', 10000, ('by', 3)), 'sample', 'is', 10000, ('by', 3))
        gives(self, None, wharf.copy().sample, 'most', 9999, ('by', 3))

    def test_full_and_torn(self):
        wharf = wharf_of(('a', 'b'), DEEDS + tuple(('most', number, ('by', 2)) for number in (5, 4, 3, 2, 1)))
        self.refused(wharf, Told, 4, 'sample', 'most', 1, ('by', 2))
        its = wharf.copy()
        its.sample('most', 99, ('by', 2))
        self.refused(its, Full, 6, 'sample', 'is', 0, ('by', 2))
        self.refused(its, Full, 6, 'sample', 'least', 5, ('by', 2))
        self.refused(its, Told, 5, 'sample', 'most', 99, ('by', 2))
        self.refused(its, BadSample, ('most', 99, ('by', 5)), 'sample', 'most', 99, ('by', 5))
        gives(self, None, wharf.sample, 'is', 1, ('by', 2))

    def test_torn(self):
        met = set()
        for sample in (('least', 5, ('by', 2)), ('is', 0, ('by', 2)), ('is', 3, ('by', 3)), ('least', 3, ('in', 'a', 3))):
            wharf = wharf_of(('a', 'b'), DEEDS + (('is', 2, ('by', 3)), ('most', 3, ('by', 0))))
            ahead = told_of(wharf)
            with self.assertRaises(Torn) as found:
                wharf.sample(*sample)
            told = found.exception.value
            self.assertTrue(same(told, fitting(wharf.yard.with_sample(sample))))
            self.assertTrue(shows_fitting(wharf.yard.with_sample(sample), told))
            self.assertNotEqual(told[0], 'mixing')
            self.assertEqual(told_of(wharf), ahead)
            met.add(told[0])
        self.assertEqual(met, {'cut', 'spot'})

    def test_a_refused_deed_leaves_what_can_be_done_again(self):
        wharf = wharf_of(('a', 'b'), DEEDS)
        wharf.undo(), wharf.undo()
        for call, *told in (
            ('fill', 'a', 0), ('dye', 'q', 1), ('pour', 'a', 'a', 1), ('draw', 'a', 9), ('sample', 'is', 5, ('by', 2)),
            ('sample', 'is', 0, 0),
        ):
            with self.assertRaises(PourError):
                getattr(wharf, call)(*told)
        gives(self, None, wharf.redo)
        gives(self, None, wharf.redo)
        self.assertEqual(wharf.yard, YARD)


class Undone(unittest.TestCase):
    def test_undo_and_redo(self):
        wharf = Wharf(('a', 'b'))
        raises(self, NothingToUndo, None, wharf.undo)
        raises(self, NothingToRedo, None, wharf.redo)
        deeds = DEEDS + (('is', 2, ('by', 3)),)
        for deed in deeds:
            do(wharf, deed)
        raises(self, NothingToRedo, None, wharf.redo)
        for number in range(5, -1, -1):
            gives(self, None, wharf.undo)
            self.assertEqual(wharf.yard, yard_by(('a', 'b'), deeds[:number]))
            self.assertEqual(wharf.done, number)
        raises(self, NothingToUndo, None, wharf.undo)
        for number in range(1, 7):
            gives(self, None, wharf.redo)
            self.assertEqual(wharf.yard, yard_by(('a', 'b'), deeds[:number]))
        raises(self, NothingToRedo, None, wharf.redo)
        self.assertEqual(wharf.yard, TWO)

    def test_another_deed_ends_what_can_be_done_again(self):
        wharf = wharf_of(('a', 'b'), DEEDS)
        wharf.undo(), wharf.undo(), wharf.redo()
        wharf.fill('b', 1)
        raises(self, NothingToRedo, None, wharf.redo)
        wharf.undo()
        wharf.undo()
        gives(self, None, wharf.redo)
        gives(self, None, wharf.redo)
        gives(self, ('fill', 'b', 1), lambda: wharf.yard.steps[-1])
        wharf.undo()
        wharf.sample('is', 2, ('by', 3))
        raises(self, NothingToRedo, None, wharf.redo)

    def test_many_deeds_at_random(self):
        dice, met = random.Random(231), []
        for _ in range(60):
            wharf, deeds, undone = Wharf(('a', 'b', 'c')), [], []
            for _ in range(40):
                call = dice.choice(('undo', 'redo', 'deed', 'deed', 'deed'))
                if call == 'deed':
                    deed = self.some_deed(dice, wharf)
                    try:
                        do(wharf, deed)
                        deeds, undone = deeds + [deed], []
                    except PourError as error:
                        met.append(type(error))
                elif call == 'undo' and deeds:
                    wharf.undo()
                    undone.append(deeds.pop())
                elif call == 'redo' and undone:
                    wharf.redo()
                    deeds.append(undone.pop())
                self.assertEqual(wharf.yard, yard_by(('a', 'b', 'c'), deeds))
                self.assertEqual(wharf.done, len(deeds))
                self.assertEqual(wharf, wharf_of(('a', 'b', 'c'), deeds))
                gives(self, 'mixing', lambda: fitting(wharf.yard)[0])
        self.assertGreater(len(set(met)), 4)

    def some_deed(self, dice, wharf):
        """Some deed, which may be refused."""
        kind = dice.choice(('fill', 'dye', 'pour', 'draw', 'sample', 'sample'))
        one, other = dice.choice('abc'), dice.choice('abc')
        if kind == 'sample' and len(wharf):
            spot = dice.choice(all_spots(wharf.yard))
            return (dice.choice(('is', 'least', 'most')), dice.randint(0, 4), spot)
        if kind == 'pour':
            return (kind, one, other, dice.randint(1, 4))
        return (kind if kind != 'sample' else 'dye', one, dice.randint(1, 4))


class Trials(unittest.TestCase):
    def setUp(self):
        self.wharf = wharf_of(('a', 'b'), DEEDS)
        self.wharf.undo()
        self.ahead = told_of(self.wharf)

    def test_behind_a_block_it_is_as_it_was(self):
        wharf = self.wharf
        with wharf.trial() as held:
            self.assertIs(held, wharf)
            held.fill('b', 7)
            gives(self, 5, lambda: wharf.done)
            raises(self, NothingToRedo, None, wharf.redo)
            held.sample('is', 2, ('by', 3))
            gives(self, (0, 2), held.now, 'b')
        self.assertEqual(told_of(wharf), self.ahead)
        wharf.redo()
        self.assertEqual(wharf.yard, YARD)

    def test_undo_and_redo_go_on_to_what_was_done_ahead(self):
        wharf = self.wharf
        with wharf.trial():
            wharf.redo()
            self.assertEqual(wharf.yard, YARD)
            for _ in range(5):
                wharf.undo()
            raises(self, NothingToUndo, None, wharf.undo)
            wharf.dye('b', 9)
            gives(self, 'vessels a b\ndye b 9', lambda: wharf.yard.text)
        self.assertEqual(told_of(wharf), self.ahead)

    def test_kept(self):
        wharf = self.wharf
        with wharf.trial():
            wharf.undo()
            gives(self, None, wharf.keep)
            wharf.undo()
        gives(self, 2, lambda: wharf.done)
        gives(self, 4, lambda: len(texts(wharf, 'redo')[0]))
        with wharf.trial():
            wharf.keep()
            wharf.keep()
            wharf.fill('a', 1)
        gives(self, ('fill', 'a', 1), lambda: wharf.yard.steps[-1])
        raises(self, NothingToRedo, None, wharf.redo)

    def test_errors_pass_on_and_nothing_is_kept(self):
        wharf = self.wharf
        for error in (KeyError('q'), BadAmount(0), StopIteration(), KeyboardInterrupt()):
            with self.assertRaises(type(error)) as found:
                with wharf.trial():
                    wharf.fill('a', 1)
                    wharf.keep()
                    raise error
            self.assertIs(found.exception, error)
            self.assertEqual(told_of(wharf), self.ahead)
            raises(self, NoTrial, None, wharf.keep)
        with self.assertRaises(TooLittle):
            with wharf.trial():
                wharf.keep()
                wharf.pour('a', 'b', 99)
        self.assertEqual(told_of(wharf), self.ahead)

    def test_an_error_that_does_not_leave_the_block(self):
        wharf = self.wharf
        with wharf.trial():
            wharf.fill('a', 1)
            raises(self, BadAmount, 0, wharf.fill, 'a', 0)
            wharf.keep()
        gives(self, 5, lambda: wharf.done)

    def test_keep_belongs_to_the_innermost_block(self):
        wharf = self.wharf
        raises(self, NoTrial, None, wharf.keep)
        with wharf.trial():
            wharf.fill('a', 1)
            with wharf.trial():
                wharf.fill('a', 2)
                wharf.keep()
            gives(self, (('fill', 'a', 1), ('fill', 'a', 2)), lambda: wharf.yard.steps[-2:])
            with wharf.trial():
                wharf.fill('a', 3)
            gives(self, ('fill', 'a', 2), lambda: wharf.yard.steps[-1])
        self.assertEqual(told_of(wharf), self.ahead)
        with wharf.trial():
            wharf.fill('a', 1)
            with wharf.trial():
                wharf.fill('a', 2)
            wharf.keep()
            with wharf.trial():
                wharf.fill('a', 3)
        gives(self, ('fill', 'a', 1), lambda: wharf.yard.steps[-1])
        raises(self, NoTrial, None, wharf.keep)

    def test_an_error_out_of_the_inner_block_alone(self):
        wharf = self.wharf
        with wharf.trial():
            wharf.fill('a', 1)
            wharf.keep()
            try:
                with wharf.trial():
                    wharf.keep()
                    wharf.fill('a', 2)
                    raise KeyError(3)
            except KeyError:
                pass
            with self.assertRaises(ZeroDivisionError):
                with wharf.trial():
                    with wharf.trial():
                        wharf.undo()
                        wharf.keep()
                    1 // 0
        gives(self, ('fill', 'a', 1), lambda: wharf.yard.steps[-1])
        gives(self, 5, lambda: wharf.done)

    def test_what_can_be_undone_behind_a_kept_block_in_one_that_is_not(self):
        wharf = self.wharf
        with wharf.trial():
            with wharf.trial():
                for _ in range(4):
                    wharf.undo()
                wharf.keep()
            gives(self, 0, lambda: wharf.done)
            wharf.redo()
        self.assertEqual(told_of(wharf), self.ahead)

    def test_as_it_was_when_it_was_entered(self):
        wharf = self.wharf
        block = wharf.trial()
        wharf.fill('b', 1)
        with block:
            wharf.fill('b', 2)
        gives(self, ('fill', 'b', 1), lambda: wharf.yard.steps[-1])
        wharf.trial()
        raises(self, NoTrial, None, wharf.keep)

    def test_two_wharves(self):
        wharf, other = self.wharf, self.wharf.copy()
        with wharf.trial(), other.trial():
            raises(self, NoTrial, None, wharf.copy().keep)
            wharf.keep()
            wharf.undo()
            other.undo()
        gives(self, (3, 4), lambda: (wharf.done, other.done))


class Tried(unittest.TestCase):
    def setUp(self):
        self.wharf = wharf_of(('a', 'b'), DEEDS)
        self.wharf.undo()
        self.ahead = told_of(self.wharf)

    def test_not_kept(self):
        wharf, met = self.wharf, []

        def look(held):
            met.append(held is wharf)
            return held.draw('a', 1), held.done

        gives(self, (3, 5), wharf.tried, look)
        self.assertEqual((told_of(wharf), met), (self.ahead, [True]))
        for value in [value for value in ODD if value is not True] + [1, 'True', (True,), [True]]:
            gives(self, (3, 5), wharf.tried, look, keep=value)
            self.assertEqual(told_of(wharf), self.ahead)

    def test_kept(self):
        wharf = self.wharf
        gives(self, 3, wharf.tried, lambda held: held.draw('a', 3), keep=True)
        self.assertEqual(wharf.yard, YARD)
        raises(self, NothingToRedo, None, wharf.redo)
        gives(self, None, wharf.tried, lambda held: held.undo() or held.keep())
        gives(self, 4, lambda: wharf.done)
        gives(self, None, wharf.tried, lambda held: held.undo(), keep=True)
        gives(self, 3, lambda: wharf.done)

    def test_the_block_of_look_is_its_own(self):
        wharf = self.wharf
        gives(self, None, wharf.tried, lambda held: held.tried(lambda its: its.undo() or its.keep()))
        self.assertEqual(told_of(wharf), self.ahead)
        gives(self, None, wharf.tried, lambda held: held.tried(lambda its: its.undo()), keep=True)
        self.assertEqual(told_of(wharf), self.ahead)
        gives(self, None, wharf.tried, lambda held: held.tried(lambda its: its.undo(), keep=True), keep=True)
        gives(self, 3, lambda: wharf.done)
        with wharf.trial():
            wharf.tried(lambda held: held.undo(), keep=True)
            gives(self, 2, lambda: wharf.done)
        gives(self, 3, lambda: wharf.done)
        raises(self, NoTrial, None, wharf.keep)

    def test_errors_pass_on(self):
        wharf = self.wharf

        def look(held):
            held.fill('a', 1)
            held.keep()
            held.fill('a', 0)

        for keep in (True, False):
            raises(self, BadAmount, 0, wharf.tried, look, keep=keep)
            self.assertEqual(told_of(wharf), self.ahead)
        with self.assertRaises(ZeroDivisionError):
            wharf.tried(lambda held: held.undo() or 1 // 0, keep=True)
        self.assertEqual(told_of(wharf), self.ahead)
        with self.assertRaises(TypeError):
            wharf.tried(look, True)


class Copies(unittest.TestCase):
    def test_independent(self):
        wharf = wharf_of(('a', 'b'), DEEDS)
        wharf.undo()
        copy = wharf.copy()
        self.assertEqual(told_of(copy), told_of(wharf))
        self.assertIsNot(copy, wharf)
        copy.redo()
        gives(self, (4, 5), lambda: (wharf.done, copy.done))
        wharf.fill('a', 1)
        raises(self, NothingToRedo, None, wharf.redo)
        self.assertEqual(copy.yard, YARD)
        copy.undo(), copy.undo()
        gives(self, (5, 3), lambda: (wharf.done, copy.done))

    def test_outside_of_all_blocks(self):
        wharf = wharf_of(('a', 'b'), DEEDS)
        with wharf.trial():
            wharf.undo()
            copy = wharf.copy()
            raises(self, NoTrial, None, copy.keep)
            with copy.trial():
                copy.undo()
            gives(self, 4, lambda: copy.done)
        gives(self, (5, 4), lambda: (wharf.done, copy.done))
        copy.redo()
        self.assertEqual(copy, wharf)

    def test_equal_wharves(self):
        wharf = wharf_of(('a', 'b'), DEEDS + (('is', 2, ('by', 3)),))
        self.assertTrue(wharf == wharf_of(('a', 'b'), DEEDS + (('is', 2, ('by', 3)),)))
        self.assertFalse(wharf != wharf.copy())
        its = wharf.copy()
        its.undo()
        self.assertTrue(wharf != its and its == wharf_of(('a', 'b'), DEEDS))
        its.redo()
        self.assertTrue(wharf == its)
        # The same yard by deeds in another sequence is another wharf.
        other = wharf_of(('a', 'b'), DEEDS[:4] + (('is', 2, ('by', 3)),) + DEEDS[4:])
        self.assertEqual(other.yard, wharf.yard)
        self.assertTrue(other != wharf)
        self.assertTrue(Wharf(('a', 'b')) != Wharf(('b', 'a')))
        self.assertTrue(Wharf(('a', 'b')) != Wharf(('a', 'b', 'c')))
        for value in ODD + (wharf.yard, wharf.vessels, 'a'):
            self.assertTrue(wharf != value)
            self.assertFalse(wharf == value)
        self.assertFalse(YARD == wharf)
        self.assertTrue(NONE != Wharf(('a', 'b')) and Wharf(('a', 'b')) != Yard('vessels a b'))


if __name__ == '__main__':
    unittest.main()
