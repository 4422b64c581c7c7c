"""Section 27: the cheapest changes."""

import random
import unittest

from dyedpours.changing import by_choice, cheapest, shows_cheapest
from dyedpours.cuts import lets, wants
from dyedpours.errors import BadChoice, BadOffers, BadWishes, BadYard
from dyedpours.yards import Yard, yard_of
from tests.helpers import (
    EMPTY, LARGE, NONE, ODD, TWO, YARD, all_mixings, gives, lot_dye, lots_of, raises, some_yards,
)
from tests.test_cuts import NO_CUTS, NO_LOTS, some_cut, some_lot
from tests.test_mixings import NO_MIXINGS

OFFERS = (('amount', 2, 4, 3), ('amount', 1, 3, 5))
WISHES = (('most', (2, 3), 3),)
NO_OFFERS = (
    ('out', 3, 1), ('out', 5, 1), ('out', -1, 1), ('out', True, 1), ('out', 2, 0), ('out', 2, 100), ('out', 2, True),
    ('out', 2), ('out', 2, 1, 1), ('Out', 2, 1), ['out', 2, 1], ('amount', 2, 4), ('amount', 2, 0, 3), ('amount', 2, 100, 3),
    ('amount', 2, True, 3), ('amount', 2, 4, 0), ('amount', 2, 4, 100), ('amount', 2, 4, False), ('amount', 3, 1, 1),
    ('amount', 4, 3, 1), ('amount', False, 4, 3), ('amount', '2', 4, 3), ('amount', 2, 4, 3, 1), ('amount', 2, None, 3),
    ('out', None, 1), ('out', 2, '1'), (('out',), 2, 1), ('amount', 2, -4, 3), ('amount', 5, 4, 3),
)
NO_LISTS = ODD + (OFFERS[0], list(OFFERS), OFFERS + OFFERS[:1], (OFFERS,), OFFERS + (None,)) + tuple(
    (value,) for value in ODD + NO_OFFERS
) + (tuple(('out', 0, price) for price in range(1, 7)),)
NO_CHOICES = tuple(value for value in ODD if value != ()) + (
    (2,), (-1,), (0, 0), (1, 0), [0], (True,), (False,), ('0',), (0, None), 0, ((0,),), (0, 1, 2), OFFERS,
)
NO_WISHES = (
    ('most', (2, 3)), ('most', (2, 3), 3, 0), ['most', (2, 3), 3], ('is', (2, 3), 3), ('Most', (2, 3), 3),
    ('most', (2, 3), -1), ('most', (2, 3), 10000), ('most', (2, 3), True), ('most', (2, 3), None), ('most', [2, 3], 3),
    ('least', (2, 3), '3'), ('least', 3, (2, 3)), (('most',), (2, 3), 3),
) + tuple(('least', value, 3) for value in NO_LOTS)


def offers_of(dice, yard):
    """Some offers, none if the yard has draws alone."""
    steps = [at for at, step in enumerate(yard.steps) if step[0] != 'draw']
    found = {}
    for _ in range(dice.randint(1, 5) if steps else 0):
        at, price = dice.choice(steps), dice.choice((1, 1, 2, 3, 99))
        amount = max(1, yard.steps[at][-1] + dice.choice((-2, -1, 0, 1)))
        found[dice.choice((('out', at, price), ('amount', at, amount, price)))] = True
    return tuple(found)


def choices_of(offers):
    """All choices, in sequence."""
    choices = [its for its in lots_of(len(offers)) if len({offers[at][1] for at in its}) == len(its)]
    return sorted(choices, key=lambda choice: sum(offers[at][-1] for at in choice))


def changed(yard, offers, choice):
    """The yard by a choice; None if there is none."""
    steps = []
    for at, step in enumerate(yard.steps):
        its = [offers[number] for number in choice if offers[number][1] == at]
        steps += [] if its and its[0][0] == 'out' else [step[:-1] + (its[0][2] if its else step[-1],)]
    try:
        return yard_of(yard.vessels, steps, ())
    except BadYard:
        return None


def lacks(yard, wish):
    """All mixings by which a yard does not keep a wish."""
    word, lot, number = wish
    rows = all_mixings(yard)
    return [row for row in rows if (lot_dye(yard, row, lot) > number if word == 'most' else lot_dye(yard, row, lot) < number)]


def keeps(yard, wish, cut):
    """Whether a cut shows that a yard keeps a wish."""
    word, lot, number = wish
    return lets(yard, lot, cut) <= number if word == 'most' else wants(yard, lot, cut) >= number


def wishes_of(dice, yard):
    """Some wishes."""
    whole = sum(step[-1] for step in yard.steps if step[0] == 'dye')
    wishes = [
        (dice.choice(('most', 'most', 'least')), some_lot(dice, yard), dice.randint(0, whole))
        for _ in range(dice.randint(1, 3))
    ]
    return tuple(dict.fromkeys(wishes))


def is_right(yard, offers, wishes, told):
    """Whether this is what cheapest tells, all mixings gone through."""
    its = {choice: changed(yard, offers, choice) for choice in choices_of(offers)}
    counting = [choice for choice in its if its[choice] is not None]
    kept = [choice for choice in counting if not any(lacks(its[choice], wish) for wish in wishes)]
    ahead = counting[:counting.index(kept[0])] if kept else counting
    reasons = told[-1]
    right = [choice for choice, _, _ in reasons] == ahead
    right = right and all(row in lacks(its[choice], wishes[number]) for choice, number, row in reasons)
    if told[0] == 'none':
        return right and not kept and len(told) == 2
    _, price, choice, cuts, _ = told
    right = right and choice == kept[0] and price == sum(offers[number][-1] for number in choice)
    return right and len(cuts) == len(wishes) and all(keeps(its[choice], wish, cut) for wish, cut in zip(wishes, cuts))


class ByChoice(unittest.TestCase):
    def test_the_example(self):
        gives(self, ('pour', 'a', 'b', 4), lambda: by_choice(YARD, OFFERS, (0,)).steps[2])
        gives(self, None, by_choice, YARD, (('out', 2, 1),), (0,))
        gives(self, ('choice', 5, (1,)), lambda: cheapest(YARD, OFFERS, WISHES)[:3])

    def test_small_yards(self):
        dice, met = random.Random(220), []
        for yard in some_yards(220, 250):
            offers = offers_of(dice, yard)
            for choice in choices_of(offers) if offers else ():
                its = changed(yard, offers, choice)
                gives(self, its, by_choice, yard=yard, offers=offers, choice=choice)
                met.append((its is None, its is not None and its.samples == ()))
            unlike = [its for its in lots_of(len(offers)) if its not in choices_of(offers)]
            for choice in unlike[:3]:
                raises(self, BadChoice, choice, by_choice, yard, offers, choice)
        self.assertGreater(min(met.count((True, False)), met.count((False, True))), 100)

    def test_all_at_once(self):
        # Neither the source less nor the pour less counts alone, but both together do.
        yard = Yard('vessels a b\nfill a 5\npour a b 5\ndraw b 1\nis 0 by 0')
        offers = (('amount', 0, 3, 1), ('amount', 1, 3, 1), ('out', 1, 1), ('out', 0, 1), ('amount', 1, 5, 1))
        for choice, text in (
            ((), 'fill a 5\npour a b 5\ndraw b 1'), ((0,), None), ((1,), 'fill a 5\npour a b 3\ndraw b 1'),
            ((0, 1), 'fill a 3\npour a b 3\ndraw b 1'), ((2,), None), ((3,), None), ((2, 3), None), ((0, 2), None),
            ((4,), 'fill a 5\npour a b 5\ndraw b 1'), ((1, 3), None),
        ):
            gives(self, text and Yard('vessels a b\n' + text), by_choice, yard, offers, choice)
        for choice in ((1, 2), (0, 3), (1, 4), (0, 1, 2)):
            raises(self, BadChoice, choice, by_choice, yard, offers, choice)

    def test_no_steps_are_left(self):
        yard = Yard('vessels a b\nfill a 5\npour a b 5')
        offers = (('out', 0, 1), ('out', 1, 1))
        gives(self, EMPTY, by_choice, yard, offers, (0, 1))
        gives(self, None, by_choice, yard, offers, (0,))
        told = cheapest(Yard('vessels a b\ndye a 5\npour a b 5'), offers, (('most', (0, 1), 0),))
        gives(self, ('choice', 2, (0, 1), ((),)), lambda: told[:4])
        gives(self, True, shows_cheapest, Yard('vessels a b\ndye a 5\npour a b 5'), offers, (('most', (0, 1), 0),), told)
        told = cheapest(Yard('vessels a b\ndye a 5\npour a b 5'), offers, (('least', (), 1),))
        gives(self, ('none', ((), (1,), (0, 1))), lambda: (told[0], tuple(choice for choice, _, _ in told[1])))
        gives(self, ((0, 1), 0, ()), lambda: told[1][2])

    def test_wrong_arguments(self):
        for value in NO_LISTS:
            for yard in (YARD, NONE):
                raises(self, BadOffers, value, by_choice, yard, value, None)
                raises(self, BadOffers, value, cheapest, yard, value, None)
                raises(self, BadOffers, value, shows_cheapest, yard, value, None, None)
        raises(self, BadOffers, OFFERS, by_choice, EMPTY, OFFERS, ())
        poured = Yard('vessels a b\nfill a 5\npour a b 5')
        for value in ((('out', -1, 1),), (('amount', -2, 1, 1),), (('out', 2, 1),), (('out', 1, 1), ('out', -1, 1))):
            raises(self, BadOffers, value, by_choice, poured, value, ())
        for value in NO_CHOICES:
            raises(self, BadChoice, value, by_choice, YARD, OFFERS, value)
        for value in ODD + (WISHES[0], list(WISHES), WISHES * 2, (WISHES,), WISHES + (None,)) + tuple(
            (value,) for value in ODD + NO_WISHES
        ) + (tuple(('most', (), number) for number in range(4)),):
            for yard in (YARD, NONE):
                raises(self, BadWishes, value, cheapest, yard, OFFERS, value)
                raises(self, BadWishes, value, shows_cheapest, yard, OFFERS, value, None)
                raises(self, BadWishes, value, shows_cheapest, yard, OFFERS, value, ('none', ()))

    def test_just_within(self):
        five = tuple(('out', 0, price) for price in (1, 2, 3, 98, 99))
        gives(self, None, by_choice, YARD, five, (4,))
        offers = (('amount', 0, 99, 1), ('amount', 1, 1, 99))
        gives(self, (('fill', 'a', 99), ('dye', 'a', 1)), lambda: by_choice(YARD, offers, (0, 1)).steps[:2])
        three = (('most', (), 0), ('least', (0, 1, 2, 3), 9999), ('most', (0, 1, 2, 3), 9999))
        gives(self, 'none', lambda: cheapest(YARD, five, three)[0])
        gives(self, ('choice', 0, ()), lambda: cheapest(YARD, five, three[::2])[:3])


class Cheapest(unittest.TestCase):
    def test_small_yards(self):
        dice, met = random.Random(221), []
        for yard in some_yards(221, 700):
            offers, wishes = offers_of(dice, yard), wishes_of(dice, yard)
            if offers:
                told = cheapest(yard=yard, offers=offers, wishes=wishes)
                self.assertTrue(is_right(yard, offers, wishes, told), (yard.text, offers, wishes, told))
                gives(self, True, shows_cheapest, yard=yard, offers=offers, wishes=wishes, value=told)
                met.append((told[0], len(told[2]) if told[0] == 'choice' else -1))
        for pair in (('choice', 0), ('choice', 1), ('choice', 2), ('none', -1)):
            self.assertGreater(met.count(pair), 4, pair)

    def test_any_right_one(self):
        dice, met = random.Random(222), []
        for yard in some_yards(222, 250):
            offers, wishes = offers_of(dice, yard), wishes_of(dice, yard)
            for _ in range(4 if offers else 0):
                told = list(cheapest(yard, offers, wishes))
                at = dice.randrange(len(told[-1]) + 1)
                if at < len(told[-1]):
                    choice = told[-1][at][0]
                    rows = all_mixings(changed(yard, offers, choice))
                    reason = (choice, dice.randrange(len(wishes)), dice.choice(rows))
                    told[-1] = told[-1][:at] + (reason,) + told[-1][at + 1:]
                elif told[0] == 'choice':
                    its = changed(yard, offers, told[2])
                    told[3] = tuple(some_cut(dice, its) if dice.random() < 0.5 else cut for cut in told[3])
                right = is_right(yard, offers, wishes, tuple(told))
                gives(self, right, shows_cheapest, yard, offers, wishes, tuple(told))
                met.append((told[0], right))
        for pair in [(word, right) for word in ('choice', 'none') for right in (True, False)]:
            self.assertGreater(met.count(pair), 15, pair)

    def test_choices_of_one_price(self):
        yard = Yard('vessels a b\ndye a 2\ndye b 2')
        wishes = (('most', (0, 1), 2),)
        for offers, price, choice in (
            ((('out', 0, 2), ('out', 1, 2)), 2, (0,)), ((('out', 0, 3), ('out', 1, 2)), 2, (1,)),
            ((('amount', 0, 1, 1), ('amount', 1, 1, 1), ('out', 1, 2)), 2, (2,)),
            ((('amount', 0, 1, 1), ('amount', 1, 1, 1), ('out', 1, 3)), 2, (0, 1)),
            ((('out', 0, 99), ('amount', 0, 2, 1)), 99, (0,)),
        ):
            gives(self, ('choice', price, choice), lambda: cheapest(yard, offers, wishes)[:3])
            gives(self, True, shows_cheapest, yard, offers, wishes, cheapest(yard, offers, wishes))
        told = cheapest(yard, (('out', 0, 1),), wishes)
        gives(self, True, shows_cheapest, yard, (('out', 0, 1),), wishes, ('choice', 1) + told[2:])
        gives(self, False, shows_cheapest, yard, (('out', 0, 1),), wishes, ('choice', True) + told[2:])

    def test_samples_are_left_aside(self):
        told = cheapest(YARD, OFFERS, WISHES)
        for yard in (TWO, NONE):
            gives(self, told, cheapest, yard, OFFERS, WISHES)
            gives(self, True, shows_cheapest, yard, OFFERS, WISHES, told)

    def test_wishes_are_all_kept(self):
        wishes = (('most', (2, 3), 3), ('least', (0, 1), 1), ('most', (0,), 2))
        told = cheapest(YARD, OFFERS, wishes)
        gives(self, True, shows_cheapest, YARD, OFFERS, wishes, told)
        gives(self, 'none', lambda: told[0])
        gives(self, ((), (0,), (1,), (0, 1)), lambda: tuple(choice for choice, _, _ in told[1]))

    def test_the_largest_yard(self):
        dice = random.Random(223)
        for _ in range(6):
            offers = tuple((('amount', at, max(1, LARGE.steps[at][-1] - dice.choice((0, 9, 40))), dice.randint(1, 99)))
                           for at in dice.sample(range(11), 5))
            wishes = (('most', some_lot(dice, LARGE), dice.randint(20, 198)), ('least', tuple(range(9)), 120))
            gives(self, True, shows_cheapest, LARGE, offers, wishes, cheapest(LARGE, offers, wishes))


class Shows(unittest.TestCase):
    def test_nothing_else(self):
        told = cheapest(YARD, OFFERS, WISHES)
        choice, cuts, reasons = told[2:]
        gives(self, True, shows_cheapest, YARD, OFFERS, WISHES, told)
        self.assertEqual([its for its, _, _ in reasons], [(), (0,)])
        first, second = reasons
        for value in ODD + (
            told[:4], told + (0,), list(told), ('none', reasons), ('Choice',) + told[1:], ('none',) + told[1:],
            ('choice', 3, (0,), cuts, reasons[:1]), ('choice', 8, (0, 1), cuts, reasons), ('choice', 0, (), cuts, ()),
            ('choice', True, choice, cuts, reasons), ('choice', 4, choice, cuts, reasons), ('choice', '5', choice, cuts, reasons),
            ('choice', 5, [1], cuts, reasons), ('choice', 5, (True,), cuts, reasons), ('choice', 5, (1,), list(cuts), reasons),
            ('choice', 5, (1,), cuts + cuts, reasons), ('choice', 5, (1,), (), reasons), ('choice', 5, (1,), cuts, list(reasons)),
            ('choice', 5, (1,), cuts, reasons[:1]), ('choice', 5, (1,), cuts, reasons[1:]), ('choice', 5, (1,), cuts, ()),
            ('choice', 5, (1,), cuts, (second, first)), ('choice', 5, (1,), cuts, reasons + (second,)),
            ('choice', 5, (1,), cuts, (first, second[:2])), ('choice', 5, (1,), cuts, (first, second + (0,))),
            ('choice', 5, (1,), cuts, (first, list(second))), ('choice', 5, (1,), cuts, (list(first), second)),
            ('choice', 5, (1,), cuts, (first, ((0,), False, second[2]))), ('choice', 5, (1,), cuts, (first, ((0,), 1, second[2]))),
            ('choice', 5, (1,), cuts, (first, ((0,), -1, second[2]))), ('choice', 5, (1,), cuts, (first, ((False,), 0, second[2]))),
            ('choice', 5, (1,), cuts, (first, ([0], 0, second[2]))), ('choice', 5, (1,), cuts, (first, ((0,), 0, (0, 4, 0, 0, 2)))),
            ('choice', 5, (1,), cuts, (first, ((0,), None, second[2]))), ('choice', 5, (1,), cuts[0], reasons),
            ('choice', 5, (1,), cuts, (((), 0, (0, 4, 2, 1, 2)), second)),
        ) + tuple((value,) + told[1:] for value in ODD) + tuple(('choice', value) + told[2:] for value in ODD):
            gives(self, False, shows_cheapest, YARD, OFFERS, WISHES, value)
        for value in ODD + NO_CHOICES:
            gives(self, False, shows_cheapest, YARD, OFFERS, WISHES, ('choice', 5, value, cuts, reasons))
            gives(self, value == (), shows_cheapest, YARD, OFFERS, WISHES, told[:4] + (((value,) + first[1:], second),))
        for value in NO_CUTS:
            gives(self, False, shows_cheapest, YARD, OFFERS, WISHES, ('choice', 5, (1,), (value,), reasons))
        for value in NO_MIXINGS:
            gives(self, False, shows_cheapest, YARD, OFFERS, WISHES, told[:4] + ((((), 0, value), second),))
        for value in ODD:
            gives(self, False, shows_cheapest, YARD, OFFERS, WISHES, told[:3] + (value, reasons))
            gives(self, False, shows_cheapest, YARD, OFFERS, WISHES, told[:4] + (value,))
            gives(self, False, shows_cheapest, YARD, OFFERS, WISHES, told[:4] + ((first, value),))

    def test_nothing_else_for_none(self):
        wishes = (('most', (2, 3), 3), ('least', (0, 1), 1))
        told = cheapest(YARD, OFFERS, wishes)
        gives(self, True, shows_cheapest, YARD, OFFERS, wishes, told)
        reasons = told[1]
        for value in ODD + (
            ('none',), ('none', ()), ('none', reasons[1:]), ('none', reasons[:-1]), ('none', list(reasons)), ['none', reasons],
            ('none', reasons + reasons[-1:]), ('none', reasons[::-1]), ('None', reasons), ('choice', reasons), ('none', None),
            ('none', reasons, 0), ('choice', 0, (), ((), ()), ()), ('choice', 5, (1,), ((), ()), reasons[:2]),
        ) + tuple((value, reasons) for value in ODD) + tuple(('none', value) for value in ODD):
            gives(self, False, shows_cheapest, YARD, OFFERS, wishes, value)
        for at, (choice, _, row) in enumerate(reasons):
            for its in (0, 1, 2, True, -1):
                value = reasons[:at] + ((choice, its, row),) + reasons[at + 1:]
                right = its in (0, 1) and its is not True and row in lacks(changed(YARD, OFFERS, choice), wishes[its])
                gives(self, right, shows_cheapest, YARD, OFFERS, wishes, ('none', value))

    def test_a_choice_that_does_not_count(self):
        offers, wishes = (('out', 2, 1), ('out', 0, 2)), (('most', (2, 3), 3),)
        told = cheapest(YARD, offers, wishes)
        gives(self, ('none', ()), lambda: (told[0], told[1][0][0]))
        gives(self, 1, lambda: len(told[1]))
        for value in (('choice', 1, (0,), ((),), told[1]), ('choice', 2, (1,), ((),), told[1]), ('choice', 0, (), ((),), ())):
            gives(self, False, shows_cheapest, YARD, offers, wishes, value)


if __name__ == '__main__':
    unittest.main()
