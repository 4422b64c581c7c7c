"""Cuts: places, what goes into them and out of them, and what they let lots and spots have."""

from dyedpours.errors import BadCut, BadLot
from dyedpours.forms import vessel_brought, vessel_taken
from dyedpours.moves import all_spots, check_spot
from dyedpours.values import are_numbers, is_within, rises


def leaves(yard, spot):
    """The place that this spot leaves; None if there is none."""
    if spot[0] == "in":
        return (spot[1], spot[2] - 1)
    vessel = vessel_taken(yard.steps[spot[1]])
    return None if vessel is None else (vessel, spot[1])


def reaches(yard, spot):
    """The place that this spot reaches; None if there is none."""
    if spot[0] == "in":
        return None if spot[2] == len(yard) else (spot[1], spot[2])
    vessel = vessel_brought(yard.steps[spot[1]])
    return None if vessel is None else (vessel, spot[1])


def bounds(yard, spot):
    """The least and the most dye of this spot that it and the samples of just this spot leave open."""
    low, high = 0, yard.amount(spot)
    if spot[0] == "by" and yard.steps[spot[1]][0] == "dye":
        low = high
    if spot[0] == "by" and yard.steps[spot[1]][0] == "fill":
        high = 0
    for word, number, its in yard.samples:
        if its == spot and word != "most":
            low = max(low, number)
        if its == spot and word != "least":
            high = min(high, number)
    return (low, high)


def is_place(yard, value):
    """Whether any value is a place of the yard."""
    if not isinstance(value, tuple) or len(value) != 2:
        return False
    return value[0] in yard and is_within(value[1], 0, len(yard) - 1)


def is_cut(yard, value):
    """Whether any value is a cut of the yard."""
    if not isinstance(value, tuple) or not all([is_place(yard, part) for part in value]):
        return False
    return rises(value)


def check_cut(yard, cut):
    """BadCut unless cut is one of the yard."""
    if not is_cut(yard, cut):
        raise BadCut(cut)


def is_lot(yard, value):
    """Whether any value is a lot of the yard."""
    return are_numbers(value, len(yard.ends))


def check_lot(yard, lot):
    """BadLot unless lot is one of the yard."""
    if not is_lot(yard, lot):
        raise BadLot(lot)


def goes_into(yard, cut, spot):
    """Whether this spot goes into this cut."""
    return reaches(yard, spot) in cut and leaves(yard, spot) not in cut


def goes_out(yard, cut, spot):
    """Whether this spot goes out of this cut."""
    return leaves(yard, spot) in cut and reaches(yard, spot) not in cut


def into(yard, cut):
    """All spots that go into this cut."""
    check_cut(yard, cut)
    return tuple([spot for spot in all_spots(yard) if goes_into(yard, cut, spot)])


def out_of(yard, cut):
    """All spots that go out of this cut."""
    check_cut(yard, cut)
    return tuple([spot for spot in all_spots(yard) if goes_out(yard, cut, spot)])


def bound_sum(yard, spots, side):
    """The lows (side 0) or the highs (side 1) of these spots together."""
    return sum([bounds(yard, spot)[side] for spot in spots])


def net(yard, come, gone, side):
    """What comes at the one bound (side) less what goes at the other bound."""
    return bound_sum(yard, come, side) - bound_sum(yard, gone, 1 - side)


def told_of_lot(yard, lot, cut, side):
    """What this cut lets this lot have (side 1), or wants of it (side 0)."""
    check_lot(yard, lot)
    # Without steps the ends are no spots, and have nothing.
    ends = [yard.ends[number] for number in lot] if len(yard) > 0 else []
    gone = [spot for spot in out_of(yard, cut) if spot not in ends]
    held = [end for end in ends if not goes_out(yard, cut, end)]
    return net(yard, into(yard, cut) + tuple(held), gone, side)


def lets(yard, lot, cut):
    """How much dye at the most this cut lets the ends of this lot have together."""
    return told_of_lot(yard, lot, cut, 1)


def wants(yard, lot, cut):
    """How much dye at least this cut wants of the ends of this lot together."""
    return told_of_lot(yard, lot, cut, 0)


def told_of_spot(yard, spot, cut, side):
    """What this cut lets this spot have (side 1), or wants of it (side 0)."""
    check_spot(yard, spot)
    come, gone = into(yard, cut), out_of(yard, cut)
    if spot in gone:
        return net(yard, come, [other for other in gone if other != spot], side)
    if spot in come:
        return net(yard, gone, [other for other in come if other != spot], side)
    return bounds(yard, spot)[side]


def lets_one(yard, spot, cut):
    """How much dye at the most this cut lets this spot have."""
    return told_of_spot(yard, spot, cut, 1)


def wants_one(yard, spot, cut):
    """How much dye at least this cut wants of this spot."""
    return told_of_spot(yard, spot, cut, 0)
