"""By how much the dyes of spots differ, and which spots have the same dye."""

from dyedpours.errors import BadSpots
from dyedpours.forms import is_spot, vessel_brought, vessel_taken
from dyedpours.heights import greatest_worth, least_worth
from dyedpours.lots import check_some, ranges
from dyedpours.mixings import dye_of, is_fitting
from dyedpours.moves import all_spots, check_spot

MOST_SPOTS = 12


def weight_in(step, vessel):
    """By how much each grain that this step moves changes what stands in this vessel."""
    if vessel_brought(step) == vessel:
        return 1
    return -1 if vessel_taken(step) == vessel else 0


def weights_of(yard, spot):
    """The weights by which the worth of each mixing is the dye of this spot."""
    check_spot(yard, spot)
    if spot[0] == "by":
        return tuple([1 if step == spot[1] else 0 for step in range(len(yard))])
    ahead = [weight_in(step, spot[1]) for step in yard.steps[:spot[2]]]
    return tuple(ahead) + (0,) * (len(yard) - spot[2])


def sums(yard, one, other, sign):
    """One's weights, and the other's times this sign, added up."""
    return tuple([one[step] + sign * other[step] for step in range(len(yard))])


def between_worths(yard, weights):
    """The least and the greatest worth by mixings that fit."""
    return (least_worth(yard, weights)[0], greatest_worth(yard, weights)[0])


def check_both_spots(yard, one, other):
    """NoMixing unless some mixing fits; BadSpot unless both are spots."""
    check_some(yard)
    check_spot(yard, one)
    check_spot(yard, other)


def difference_weights(yard, one, other):
    """The weights by which the worth of each mixing is the dye of one spot less that of the other."""
    return sums(yard, weights_of(yard, one), weights_of(yard, other), -1)


def difference(yard, one, other):
    """The least and the greatest that the dye of one spot less that of the other is by mixings that fit."""
    check_both_spots(yard, one, other)
    return between_worths(yard, difference_weights(yard, one, other))


def check_spots(yard, spots):
    """BadSpots unless spots is a tuple of one to twelve unlike spots."""
    if not isinstance(spots, tuple) or not 1 <= len(spots) <= MOST_SPOTS:
        raise BadSpots(spots)
    if not all([is_spot(spot, yard.vessels, len(yard)) for spot in spots]) or len(set(spots)) < len(spots):
        raise BadSpots(spots)


def together(yard, spots):
    """The least and the greatest dye of these spots added up, by mixings that fit."""
    check_some(yard)
    check_spots(yard, spots)
    weights = (0,) * len(yard)
    for spot in spots:
        weights = sums(yard, weights, weights_of(yard, spot), 1)
    return between_worths(yard, weights)


def fixed(yard):
    """All spots that have the same dye by all mixings that fit, with it."""
    told = ranges(yard)
    return tuple([(spot, told[at][0]) for at, spot in enumerate(all_spots(yard)) if told[at][0] == told[at][1]])


def alike(yard, one, other):
    """Whether both spots have the same dye by each mixing that fits; if not, one by which they have not."""
    check_both_spots(yard, one, other)
    weights = difference_weights(yard, one, other)
    for number, row, _ in (least_worth(yard, weights), greatest_worth(yard, weights)):
        if number != 0:
            return ("unlike", row)
    return ("alike",)


def shows_alike(yard, one, other, value):
    """Whether any value is right as what alike tells."""
    check_both_spots(yard, one, other)
    if not isinstance(value, tuple) or len(value) not in (1, 2):
        return False
    if len(value) == 1:
        return value[0] == "alike" and difference(yard, one, other) == (0, 0)
    if value[0] != "unlike" or not is_fitting(yard, value[1]):
        return False
    return dye_of(yard, value[1], one) != dye_of(yard, value[1], other)
