"""What several tests need: the yards of the document, odd values, and all mixings gone through one by one."""

import itertools
import random

from dyedpours.errors import BadStep, Full, PourError, Told
from dyedpours.moves import all_spots
from dyedpours.yards import Yard

TEXT = 'vessels a b\nfill a 6\ndye a 4\npour a b 5\ndraw b 2\ndraw a 3'
YARD = Yard(TEXT)
TWO = YARD.with_sample(('is', 2, ('by', 3)))
NONE = TWO.with_sample(('is', 0, ('by', 2)))
EMPTY = Yard('vessels a b')
BEYOND = (('b', 2), ('b', 3), ('b', 4))

# The most of everything that a yard may have.
LARGE = Yard('\n'.join([
    'vessels a b c d e f', 'dye a 99', 'fill b 99', 'dye c 99', 'fill d 99', 'pour a b 60', 'pour b c 99',
    'pour c d 90', 'pour d e 99', 'pour e f 70', 'pour f a 50', 'pour c a 33', 'draw a 40', 'draw e 20', 'draw d 30',
    'least 3 by 11', 'most 90 in b 5', 'least 1 in e 8', 'most 29 by 13', 'least 7 in a 11', 'most 60 in f 14',
]))

# No function asks for any of these but where a test says so.
ODD = (
    None, True, False, -1, 99999, '', ' ', 'a ', 'A', 'abcdefghi', 'by', (), (None,), (True,), (('a', 0),) * 2,
    [], [0], ['a'], {}, {'a': 0}, {0: 1}, ['by', 0], ('by',), ('by', True), ('by', False), ('by', '0'), ('by', -1),
    ('by', 999), ('by', 0, 0), ('by', [0]), ('in', 'a'), ('in', 'a', True), ('in', 'a', 0), ('in', 'a', 99),
    ('in', 'q', 1), ('in', ['a'], 1), ('in', 0, 1), ('by', None), (['by'], 0), [('by', 0)], (('by', 0),),
    YARD, (YARD,), [YARD, YARD], PourError(3), [[[[[[((((), [], {}),),)]]]]]], {'a': [(1, {'b': ()})]},
)


def same(one, other):
    """Whether two values are alike at any depth, True being no 1 and a list no tuple."""
    if type(one) is not type(other):
        return False
    if isinstance(one, (list, tuple)):
        return len(one) == len(other) and all(same(its, their) for its, their in zip(one, other))
    return one is other or one == other


def raises(test, error, value, call, *told, **named):
    """The call raises just this error, which keeps just this value."""
    try:
        answer = call(*told, **named)
    except PourError as found:
        test.assertIs(type(found), error, (told, named))
        test.assertTrue(same(found.value, value), (found.value, value))
        return
    test.fail('%r was told of %r %r' % (answer, told, named))


def gives(test, answer, call, *told, **named):
    """The call returns just this, True being no 1 and a list no tuple."""
    found = call(*told, **named)
    test.assertTrue(same(found, answer), (found, answer, told, named))


def spot_dye(yard, row, spot):
    """The dye of a spot, reckoned by what came and went."""
    if spot[0] == 'by':
        return row[spot[1]]
    come = gone = 0
    for step, number in list(zip(yard.steps, row))[:spot[2]]:
        if step[0] in ('fill', 'dye') and step[1] == spot[1] or step[0] == 'pour' and step[2] == spot[1]:
            come += number
        if step[0] in ('pour', 'draw') and step[1] == spot[1]:
            gone += number
    return come - gone


def lot_dye(yard, row, lot):
    """The dye of a lot of a yard, which has none without steps."""
    return sum(spot_dye(yard, row, yard.ends[number]) for number in lot) if len(yard) else 0


def kept(yard, row):
    """Whether a mixing keeps all samples."""
    for word, number, spot in yard.samples:
        its = spot_dye(yard, row, spot)
        if word != 'most' and its < number or word != 'least' and its > number:
            return False
    return True


def lots_of(many):
    """All ascending tuples of numbers of so many things, by how many they have, then as tuples."""
    return [lot for size in range(many + 1) for lot in itertools.combinations(range(many), size)]


def all_mixings(yard):
    """All mixings, whether they fit or not, each number of each step tried."""
    found = [((), {vessel: (0, 0) for vessel in yard.vessels})]
    for step in yard.steps:
        after = []
        for row, stand in found:
            for number in range(step[-1] + 1):
                stood = moved(step, number, stand)
                if stood is not None:
                    after.append((row + (number,), stood))
        found = after
    return [row for row, _ in found]


def moved(step, number, stand):
    """The (dyed, clean) grain in all vessels behind a step that moves so much dye; None if it cannot."""
    clean = step[-1] - number
    if step[0] in ('fill', 'dye') and (number, clean)[step[0] == 'dye'] != 0:
        return None
    after = dict(stand)
    if step[0] in ('pour', 'draw'):
        after[step[1]] = (after[step[1]][0] - number, after[step[1]][1] - clean)
        if min(after[step[1]]) < 0:
            return None
    if step[0] != 'draw':
        into = step[2] if step[0] == 'pour' else step[1]
        after[into] = (after[into][0] + number, after[into][1] + clean)
    return after


def fitting_ones(yard):
    """All mixings that fit, ascending."""
    return sorted(row for row in all_mixings(yard) if kept(yard, row))


def some_step(dice, yard, sources, most):
    """Some step, which may be none that can stand there."""
    level = {vessel: yard.level(vessel, len(yard)) for vessel in yard.vessels}
    full = [vessel for vessel in yard.vessels if level[vessel] > 0]
    if not full or len(yard) < sources or dice.random() < 0.15:
        # Mostly into one vessel, one of a kind behind the other, so that there is something to be told apart.
        vessel = yard.vessels[0] if dice.random() < 0.9 else dice.choice(yard.vessels)
        kind = ('fill', 'dye')[len(yard) % 2] if dice.random() < 0.9 else dice.choice(('fill', 'dye'))
        return (kind, vessel, dice.randint(1, most))
    vessel = max(full, key=level.get) if dice.random() < 0.5 else dice.choice(full)
    amount = dice.randint(1, min(99, max(1, level[vessel] - dice.choice((0, 1, 1)))))
    others = [other for other in yard.vessels if other != vessel]
    if others and dice.random() < 0.65:
        return ('pour', vessel, dice.choice(others), amount)
    return ('draw', vessel, amount)


def some_sample(dice, yard, rows):
    """Some sample, mostly one that the last one of some mixings keeps."""
    spot = dice.choice(all_spots(yard))
    number = spot_dye(yard, dice.choice(rows[-3:]), spot) + dice.choice((0, 0, 0, 0, 0, 0, 1, -1))
    return (dice.choice(('is', 'least', 'most')), max(0, number), spot)


def some_yard(dice, vessels, steps, most, samples):
    """Some yard, with so many steps, and amounts of sources so great, at the most."""
    yard = Yard('vessels ' + ' '.join(dice.sample(('a', 'b', 'c', 'zz', 'by', 'fill'), vessels)))
    sources = dice.choice((1, 2, 2, 2, 2, 3))
    for _ in range(steps * 3):
        try:
            yard = yard.with_step(some_step(dice, yard, sources, most)) if len(yard) < steps else yard
        except BadStep:
            pass
    rows = all_mixings(yard) if samples else []
    for _ in range(samples if len(yard) else 0):
        try:
            yard = yard.with_sample(some_sample(dice, yard, rows))
        except (Told, Full):
            pass
    return yard


def some_yards(seed, many):
    """So many small yards, always the same ones of a seed."""
    dice = random.Random(seed)
    yards = []
    for _ in range(many):
        vessels, steps = dice.randint(1, 4), dice.choice((0, 1, 2, 3, 4, 5, 5, 6, 6, 7, 7))
        yards.append(some_yard(dice, vessels, steps, dice.choice((2, 4, 6)), dice.choice((0, 0, 1, 2, 4))))
    return yards
