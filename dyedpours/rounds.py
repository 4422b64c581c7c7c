"""What is left behind the same steps again and again; samples are left aside."""

from dyedpours.errors import BadBlock, BadLot, BadMany
from dyedpours.forms import is_step, moved_on, step_in, vessel_brought, vessel_taken
from dyedpours.recalls import check_most
from dyedpours.tables import lot_with, lot_without, most_of_lots
from dyedpours.values import are_numbers, is_within, tuples_of

MOST_LINES = 8
MOST_ROUNDS = 999999999


def levels_of(yard, steps):
    """What stands in each vessel behind all steps of the yard, and behind each of these more."""
    levels = [yard.levels[-1]]
    for step in steps:
        levels.append(moved_on(yard.vessels, levels[-1], step, step[-1]))
    return levels


def steps_in(yard, block):
    """The steps of a block; BadBlock for what is none."""
    if not isinstance(block, str):
        raise BadBlock(block)
    steps = [step_in(line) for line in block.split("\n")]
    if len(steps) > MOST_LINES or not all([is_step(step, yard.vessels) for step in steps]):
        raise BadBlock(block)
    levels = levels_of(yard, steps)
    if min([min(level) for level in levels]) < 0 or levels[-1] != levels[0]:
        raise BadBlock(block)
    return steps


def lot_behind(lot, gone, come, amount, left):
    """Of which two lots, with how much more, the lesser one tells the most that a lot has behind a step.

    So much goes from one vessel into another one, None for what is outside, and so much is left there.
    """
    if gone is not None and gone not in lot and come in lot:
        return ((lot, amount), (lot_with(lot, gone), 0))
    if gone in lot and come not in lot:
        return ((lot, 0), (lot_without(lot, gone), left))
    return ((lot, 0), (lot, 0))


def place_of(yard, vessel):
    """The number of this vessel; None for None."""
    return None if vessel is None else yard.vessels.index(vessel)


def rule_of(yard, step, level):
    """What lot_behind tells of this step for each lot of vessels, lots by their numbers; level is that behind it."""
    lots = tuples_of(len(yard.vessels))
    gone, come = place_of(yard, vessel_taken(step)), place_of(yard, vessel_brought(step))
    rule = []
    for lot in lots:
        if step[0] == "dye" and come in lot:
            one, other = (lot, step[-1]), (lot, step[-1])
        else:
            one, other = lot_behind(lot, gone, come, step[-1], None if gone is None else level[gone])
        rule.append((lots.index(one[0]), one[1], lots.index(other[0]), other[1]))
    return rule


def round_behind(rules, most):
    """What all lots have at the most behind one round more."""
    for rule in rules:
        most = [min(most[one] + more, most[other] + its) for one, more, other, its in rule]
    return tuple(most)


def all_rounds(yard, block):
    """What again tells of each number of rounds until it comes again, and of which one it tells then."""
    steps = steps_in(yard, block)
    rules = [rule_of(yard, step, level) for step, level in zip(steps, levels_of(yard, steps)[1:])]
    had = most_of_lots(yard)
    most = tuple([had[lot] for lot in tuples_of(len(yard.vessels))])
    told = {}
    while most not in told:
        told[most] = len(told)
        most = round_behind(rules, most)
    return (list(told), told[most])


def again(yard, block, many):
    """What each lot of vessels has at the most behind all steps and so many rounds."""
    told, ahead = all_rounds(yard, block)
    if not is_within(many, 0, MOST_ROUNDS):
        raise BadMany(many)
    if many < len(told):
        return told[many]
    return told[ahead + divmod(many - ahead, len(told) - ahead)[1]]


def turns(yard, block):
    """Behind how many rounds again tells the same as before for the first time, and how many rounds lie between."""
    told, ahead = all_rounds(yard, block)
    return (ahead, len(told) - ahead)


def until(yard, block, lot, most):
    """The least number of rounds behind which these vessels surely have at most so much dye; None if there is none."""
    told, _ = all_rounds(yard, block)
    if not are_numbers(lot, len(yard.vessels)):
        raise BadLot(lot)
    check_most(most)
    at = tuples_of(len(yard.vessels)).index(lot)
    behind = [number for number, row in enumerate(told) if row[at] <= most]
    return behind[0] if len(behind) > 0 else None
