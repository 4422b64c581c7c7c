"""Section 6: exchanged steps."""

import itertools
import unittest

from dyedpours.errors import (
    BadAmount, BadYard, Fixed, Full, NoStep, NotParted, OtherVessels, Unlike,
)
from dyedpours.exchange import (
    exchanged, joined, may_exchange, normal, parted, same_steps, shows_same_steps,
)
from dyedpours.yards import Yard, yard_of
from tests.helpers import EMPTY, ODD, TEXT, TWO, YARD, gives, raises, some_yards


def clash(step, its):
    """Whether one of these brings into a vessel from which the other takes."""
    brings = [{'fill': 1, 'dye': 1, 'pour': 2}.get(part[0]) for part in (step, its)]
    takes = [part[1] if part[0] in ('pour', 'draw') else None for part in (step, its)]
    return any(
        place is not None and part[place] == taken
        for place, part, taken in ((brings[0], step, takes[1]), (brings[1], its, takes[0]))
    )


def all_sequences(steps):
    """All tuples of steps to which exchanges of neighbours lead."""
    found, left = {steps}, [steps]
    while left:
        now = left.pop()
        for at in range(len(now) - 1):
            after = now[:at] + (now[at + 1], now[at]) + now[at + 2:]
            if not clash(now[at], now[at + 1]) and after not in found:
                found.add(after)
                left.append(after)
    return found


class Exchanging(unittest.TestCase):
    def test_the_example(self):
        gives(self, [True, False, False, True], lambda: [may_exchange(YARD, number) for number in range(4)])
        gives(self, ['dye a 4', 'fill a 6'], lambda: exchanged(YARD, 0).text.split('\n')[1:3])
        gives(self, ('dye', 'a', 4), lambda: normal(YARD).steps[0])
        self.assertEqual(same_steps(YARD, exchanged(YARD, 3))[0], 'same')
        gives(self, True, shows_same_steps, YARD, exchanged(YARD, 3), ('same', (3,)))
        self.assertEqual(same_steps(YARD, parted(YARD, 0, 2))[0], 'unlike')

    def test_what_may_be_exchanged(self):
        text = 'vessels a b c\nfill a 9\nfill b 9\n%s\n%s'
        may = (
            ('fill a 1', 'dye a 1'), ('fill a 1', 'fill a 1'), ('pour a b 1', 'pour a c 1'), ('pour a c 1', 'pour b c 1'),
            ('draw a 1', 'pour a b 1'), ('pour a b 1', 'fill b 1'), ('draw a 1', 'draw a 1'), ('draw a 1', 'fill b 1'),
        )
        not_so = (
            ('fill a 1', 'draw a 1'), ('draw a 1', 'dye a 1'), ('pour a b 1', 'pour b a 1'), ('pour a b 1', 'draw b 1'),
            ('draw b 1', 'pour a b 1'), ('pour a b 1', 'fill a 1'), ('pour a b 1', 'pour b c 1'),
        )
        for pairs, answer in ((may, True), (not_so, False)):
            for pair in pairs:
                gives(self, answer, may_exchange, yard=Yard(text % pair), number=2)

    def test_no_pair_of_steps(self):
        for call in (may_exchange, exchanged, joined):
            for value in ODD + (4, 5):
                raises(self, NoStep, value, call, YARD, value)
            raises(self, NoStep, 0, call, EMPTY, 0)
            raises(self, NoStep, 0, call, Yard('vessels a\nfill a 1'), 0)

    def test_exchanged(self):
        gives(self, Yard('vessels a b\nfill a 6\ndye a 4\npour a b 5\ndraw a 3\ndraw b 2'), exchanged, YARD, 3)
        gives(self, exchanged(YARD, 3), exchanged, TWO, number=3)
        raises(self, Fixed, 1, exchanged, YARD, 1)
        raises(self, Fixed, 2, exchanged, TWO, 2)

    def test_normal(self):
        gives(self, 'vessels a b\ndye a 4\nfill a 6\ndraw a 3\npour a b 5\ndraw b 2', lambda: normal(TWO).text)
        gives(self, EMPTY, normal, EMPTY)
        for yard in some_yards(2, 120):
            gives(self, min(all_sequences(yard.steps)), lambda: normal(yard).steps)
            gives(self, (), lambda: normal(yard).samples)

    def test_same_steps(self):
        for yard in some_yards(3, 60):
            sequences = sorted(all_sequences(yard.steps))
            for steps in sequences[:3] + sequences[-3:]:
                other = yard_of(yard.vessels, steps, ())
                told = same_steps(yard, other)
                self.assertEqual(told[0], 'same')
                self.assertLessEqual(len(told[1]), 91)
                self.assertTrue(shows_same_steps(yard, other, told))

    def test_unlike_steps(self):
        yards = [yard for yard in some_yards(4, 400) if sorted(yard.vessels) == ['a', 'b'] or len(yard.vessels) == 1]
        many = 0
        for one, other in itertools.product(yards, yards):
            if one.vessels == other.vessels and one.bare() != other.bare():
                alike = other.steps in all_sequences(one.steps)
                told = same_steps(one, other)
                self.assertEqual(told[0], 'same' if alike else 'unlike')
                gives(self, True, shows_same_steps, one, other, told)
                many += 1
        self.assertGreater(many, 100)

    def test_the_same_steps_in_any_sequence(self):
        for yard in some_yards(41, 60):
            sequences = all_sequences(yard.steps) if len(yard) < 6 else ()
            for steps in sorted(set(itertools.permutations(yard.steps)))[:60] if sequences else ():
                try:
                    other = yard_of(yard.vessels, steps, ())
                except BadYard:
                    continue
                told = same_steps(yard, other)
                self.assertEqual(told[0], 'same' if steps in sequences else 'unlike')
                gives(self, True, shows_same_steps, yard, other, told)

    def test_the_longest_way(self):
        fills = ['fill a %d' % (number + 1) for number in range(14)]
        one, other = Yard('\n'.join(['vessels a'] + fills)), Yard('\n'.join(['vessels a'] + fills[::-1]))
        told = same_steps(one, other)
        self.assertEqual(len(told[1]), 91)
        gives(self, True, shows_same_steps, one, other, told)
        gives(self, False, shows_same_steps, one, other, ('same', told[1] + (0, 0)))
        gives(self, True, shows_same_steps, one, one, ('same', (0,) * 90))
        gives(self, False, shows_same_steps, one, one, ('same', (0,) * 91))
        gives(self, False, shows_same_steps, one, one, ('same', (0,) * 92))

    def test_other_vessels(self):
        others = ODD[:ODD.index(YARD)] + (
            Yard('vessels b a'), Yard('vessels a'), Yard('vessels a b c'), [YARD], (YARD,), YARD.text, YARD.steps,
        )
        for value in others:
            raises(self, OtherVessels, value, same_steps, YARD, value)
            raises(self, OtherVessels, value, shows_same_steps, YARD, value, ('same', ()))
        gives(self, ('same', ()), same_steps, one=TWO, other=YARD)
        self.assertEqual(same_steps(YARD, EMPTY)[0], 'unlike')
        gives(self, ('same', ()), same_steps, EMPTY, EMPTY)

    def test_shows_same(self):
        other = exchanged(exchanged(YARD, 3), 0)
        for value in (('same', (3, 0)), ('same', (0, 3)), ('same', (0, 0, 0, 3))):
            gives(self, True, shows_same_steps, YARD, other, value)
        wrong = ODD + (
            ('same', (0,)), ('same', ()), ('same', [0, 3]), ['same', (0, 3)], ('same', (False, 3)), ('same', (0, 3), 0),
            ('same', (0, 3, 1)), ('same', (0, 3, 1, 1)), ('same', (0, 3, 4, 4)), ('same', (0, 3, -1, -1)), ('same',),
            ('Same', (0, 3)), ('unlike', (0, 3)), ('same', None), ('same', 3), ('same', ((0,), 3)), (True, (0, 3)),
            ('same', ('0', 3)), ('same', {0: 3}), ('unlike', ('fill', 'a', 6), ('fill', 'a', 6)),
        )
        for value in wrong:
            gives(self, False, shows_same_steps, YARD, other, value)

    def test_shows_unlike(self):
        other = Yard('vessels a b\nfill a 6\npour a b 5\ndye a 4\ndraw b 2\ndraw a 3')
        pour, dye, its = ('pour', 'a', 'b', 5), ('dye', 'a', 4), ('draw', 'a', 9)
        for value in (('unlike', pour, dye), ('unlike', dye, pour)):
            gives(self, True, shows_same_steps, YARD, other, value)
        wrong = (
            ('unlike', dye, dye), ('unlike', dye, its), ('unlike', dye, ('fill', 'a', 6)), ('unlike', pour), ('same', pour, dye),
            ('unlike', pour, dye, dye), ['unlike', pour, dye], ('unlike', list(pour), dye), ('unlike', pour, None),
            ('unlike', pour, ('dye', 'a', True)), ('same', ()), ('unlike', (pour, dye)), (pour, dye), ('unlike', 2, 1),
        )
        for value in ODD + wrong:
            gives(self, False, shows_same_steps, YARD, other, value)

    def test_shows_unlike_of_steps_that_stand_nowhere(self):
        other = Yard(TEXT.replace('fill a 6', 'fill a 7'))
        fill = ('fill', 'a', 6)
        for its in (fill, ('draw', 'a', 99), ('pour', 'a', 'b', 1), ('draw', 'a', 3), ('fill', 'a', 7)):
            clashes = its == fill or clash(fill, its)
            gives(self, clashes, shows_same_steps, YARD, other, ('unlike', fill, its))
            gives(self, clashes, shows_same_steps, YARD, other, ('unlike', its, fill))
        for its in (
            ('draw', 'a', 100), ('draw', 'c', 1), ('pour', 'a', 'a', 1), ('draw', 'a', 0), ('pour', 'a', 'c', 1),
            ['draw', 'a', 1], ('draw', 'a', True), ('draw', 'a', None), ('pour', 'a', 1), list(fill), None, (fill,),
        ):
            gives(self, False, shows_same_steps, YARD, other, ('unlike', fill, its))
            gives(self, False, shows_same_steps, YARD, other, ('unlike', its, fill))

    def test_a_step_more_of_the_same(self):
        one, other = Yard('vessels a\nfill a 1\nfill a 2'), Yard('vessels a\nfill a 1\nfill a 2\nfill a 1')
        gives(self, ('unlike', ('fill', 'a', 1), ('fill', 'a', 1)), same_steps, one, other)
        gives(self, ('unlike', ('fill', 'a', 1), ('fill', 'a', 1)), same_steps, other, one)


class Joining(unittest.TestCase):
    def test_the_example(self):
        gives(self, YARD, joined, parted(YARD, 0, 2), 0)

    def test_joined(self):
        for lines, both in ((('fill a 98', 'fill a 1'), 'fill a 99'), (('pour b a 1', 'pour b a 2'), 'pour b a 3')):
            yard = Yard('vessels a b\ndye b 9\n' + '\n'.join(lines) + '\nfill a 1\nis 9 by 0')
            gives(self, Yard('vessels a b\ndye b 9\n' + both + '\nfill a 1'), joined, yard, number=1)
        wrong = (
            ('fill a 98', 'fill a 2'), ('fill a 1', 'dye a 1'), ('fill a 1', 'fill b 1'), ('draw b 1', 'draw b 1'),
            ('pour b a 1', 'pour a b 1'), ('pour b a 1', 'draw b 1'),
        )
        for lines in wrong:
            raises(self, Unlike, 1, joined, Yard('vessels a b\ndye b 9\n' + '\n'.join(lines)), 1)

    def test_parted(self):
        gives(self, Yard(TEXT.replace('pour a b 5', 'pour a b 1\npour a b 4')), parted, TWO, 2, 1)
        gives(self, Yard(TEXT.replace('dye a 4', 'dye a 3\ndye a 1')), parted, yard=YARD, number=1, amount=3)
        yard = Yard('vessels a\nfill a 2')
        gives(self, Yard('vessels a\nfill a 1\nfill a 1'), parted, yard, 0, 1)

    def test_not_parted(self):
        for value in ODD + (5,):
            raises(self, NoStep, value, parted, YARD, value, None)
        for value in ODD + (0, 5, 6):
            raises(self, BadAmount, value, parted, YARD, 2, value)
            raises(self, BadAmount, value, parted, YARD, 4, value)
        raises(self, BadAmount, 3, parted, YARD, 4, 3)
        raises(self, NotParted, 4, parted, YARD, 4, 2)
        raises(self, BadAmount, 1, parted, Yard('vessels a\nfill a 1'), 0, 1)

    def test_parted_of_fourteen(self):
        full = Yard('\n'.join(['vessels a'] + ['fill a 2'] * 13 + ['draw a 2']))
        raises(self, Full, 14, parted, full, 0, 1)
        raises(self, BadAmount, 2, parted, full, 0, 2)
        raises(self, NotParted, 13, parted, full, 13, 1)
        self.assertEqual(len(parted(Yard('\n'.join(full.text.split('\n')[:-1])), 12, 1)), 14)


if __name__ == '__main__':
    unittest.main()
