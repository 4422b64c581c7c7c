"""The least and the greatest worth that mixings have by weights, and heights that show it."""

from dyedpours.cuts import bounds, leaves, reaches
from dyedpours.errors import BadHeights, BadWeights
from dyedpours.lots import check_some, fitted_flow
from dyedpours.mixings import check_mixing, is_fitting
from dyedpours.moves import all_spots, check_spot
from dyedpours.networks import place_node, row_of
from dyedpours.prices import settle_prices
from dyedpours.values import are_integers, is_integer


def check_weights(yard, weights):
    """BadWeights unless weights is a tuple of integers, one for each step."""
    if not are_integers(weights, len(yard)):
        raise BadWeights(weights)


def are_heights(yard, value):
    """Whether any value is a tuple with, for each step, a tuple with an integer for each vessel."""
    if not isinstance(value, tuple) or len(value) != len(yard):
        return False
    return all([are_integers(part, len(yard.vessels)) for part in value])


def check_heights(yard, heights):
    """BadHeights unless heights are some of the yard."""
    if not are_heights(yard, heights):
        raise BadHeights(heights)


def worth_of(row, weights):
    """The numbers of this row, each times its weight, together."""
    return sum([number * weights[step] for step, number in enumerate(row)])


def worth(yard, row, weights):
    """The worth of this mixing by these weights."""
    check_mixing(yard, row)
    check_weights(yard, weights)
    return worth_of(row, weights)


def height_of(yard, heights, place):
    """The height of this place; 0 for None, which is no place."""
    return 0 if place is None else heights[place[1]][yard.vessels.index(place[0])]


def slope_of(yard, weights, heights, spot):
    """The slope of a spot by what are weights and heights."""
    weight = weights[spot[1]] if spot[0] == "by" else 0
    return weight + height_of(yard, heights, leaves(yard, spot)) - height_of(yard, heights, reaches(yard, spot))


def slope(yard, weights, heights, spot):
    """The slope of this spot."""
    check_weights(yard, weights)
    check_heights(yard, heights)
    check_spot(yard, spot)
    return slope_of(yard, weights, heights, spot)


def borne(yard, weights, heights):
    """The number that these heights bear for these weights."""
    check_weights(yard, weights)
    check_heights(yard, heights)
    number = 0
    for spot in all_spots(yard):
        rise = slope_of(yard, weights, heights, spot)
        low, high = bounds(yard, spot)
        number += rise * (low if rise > 0 else high)
    return number


def contraries(weights):
    """The contraries of these weights."""
    return tuple([-weight for weight in weights])


def least_found(yard, flow, weights):
    """The least worth, a row that has it, and heights that bear it, by the flow of some mixing that fits."""
    levels = settle_prices(flow, weights)
    row = row_of(yard, flow)
    ground = levels[place_node(yard, None)]
    heights = tuple([
        tuple([levels[place_node(yard, (vessel, step))] - ground for vessel in yard.vessels])
        for step in range(len(yard))
    ])
    return (worth_of(row, weights), row, heights)


def least_worth(yard, weights):
    """The least worth by mixings that fit, such a mixing, and heights that bear just this number."""
    flow = fitted_flow(yard, ())
    check_weights(yard, weights)
    return least_found(yard, flow, weights)


def greatest_worth(yard, weights):
    """The greatest worth by mixings that fit, such a mixing, and heights that bear its contrary for the contraries."""
    flow = fitted_flow(yard, ())
    check_weights(yard, weights)
    number, row, heights = least_found(yard, flow, contraries(weights))
    return (-number, row, heights)


def is_weighed(yard, value):
    """Whether any value is an integer, a mixing that fits, and heights."""
    if not isinstance(value, tuple) or len(value) != 3 or not is_integer(value[0]):
        return False
    return is_fitting(yard, value[1]) and are_heights(yard, value[2])


def is_borne_out(yard, weights, number, row, heights):
    """Whether this number is both the worth of this row and what these heights bear."""
    return number == worth_of(row, weights) == borne(yard, weights, heights)


def shows_least_worth(yard, weights, value):
    """Whether any value is right as what least_worth tells."""
    check_some(yard)
    check_weights(yard, weights)
    return is_weighed(yard, value) and is_borne_out(yard, weights, value[0], value[1], value[2])


def shows_greatest_worth(yard, weights, value):
    """Whether any value is right as what greatest_worth tells."""
    check_some(yard)
    check_weights(yard, weights)
    return is_weighed(yard, value) and is_borne_out(yard, contraries(weights), -value[0], value[1], value[2])
