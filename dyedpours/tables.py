"""The most dye that holders can have together at each moment, reckoned step by step; samples are left aside."""

from dyedpours.cuts import check_lot
from dyedpours.forms import vessel_brought, vessel_taken
from dyedpours.moves import check_moment
from dyedpours.values import tuples_of
from dyedpours.yards import yard_of


def yard_ahead(yard, moment):
    """The Yard, without samples, of just the steps ahead of this moment; its ends are the holders then."""
    check_moment(yard, moment)
    return yard_of(yard.vessels, yard.steps[:moment], ())


def holders(yard, moment):
    """What stands in all vessels at this moment, and behind them the glasses that were drawn ahead of it."""
    return yard_ahead(yard, moment).ends


def lot_with(lot, number):
    """This lot with one holder more."""
    return tuple(sorted(lot + (number,)))


def lot_without(lot, number):
    """This lot without one of its holders."""
    return tuple([part for part in lot if part != number])


def with_glass(most, glass):
    """The most of all lots with one glass more, in which nothing is."""
    had = {lot: most[lot] for lot in most}
    for lot in most:
        had[lot + (glass,)] = most[lot]
    return had


def most_behind(most, lot, gone, come, amount, left):
    """The most that a lot has if so much goes from one holder into another one, and so much is left there."""
    if come in lot and gone not in lot:
        return min(most[lot] + amount, most[lot_with(lot, gone)])
    if gone in lot and come not in lot:
        return min(most[lot], most[lot_without(lot, gone)] + left)
    return most[lot]


def step_behind(yard, number, most, glass):
    """The most of all lots behind this step, by those ahead of it; glass is the number that the next glass gets."""
    step = yard.steps[number]
    if step[0] == "fill":
        return most
    if step[0] == "dye":
        come = yard.vessels.index(step[1])
        return {lot: most[lot] + (step[-1] if come in lot else 0) for lot in most}
    gone = yard.vessels.index(vessel_taken(step))
    come = glass if step[0] == "draw" else yard.vessels.index(vessel_brought(step))
    had = with_glass(most, glass) if step[0] == "draw" else most
    left = yard.levels[number + 1][gone]
    return {lot: most_behind(had, lot, gone, come, step[-1], left) for lot in had}


def most_of_lots(yard):
    """The most dye of each lot of the ends of this yard."""
    glass = len(yard.vessels)
    most = {lot: 0 for lot in tuples_of(glass)}
    for number, step in enumerate(yard.steps):
        most = step_behind(yard, number, most, glass)
        if step[0] == "draw":
            glass += 1
    return most


def most_at(yard, moment, lot):
    """The greatest dye that these holders can have together at this moment."""
    ahead = yard_ahead(yard, moment)
    check_lot(ahead, lot)
    return most_of_lots(ahead)[lot]


def table(yard, moment):
    """What most_at tells of all lots of the holders at this moment, in sequence."""
    ahead = yard_ahead(yard, moment)
    most = most_of_lots(ahead)
    return tuple([most[lot] for lot in tuples_of(len(ahead.ends))])
