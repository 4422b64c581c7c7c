"""What fits, and the most and the least dye that lots and spots can have, with cuts that show it."""

from dyedpours.cuts import bounds, check_lot, into, is_cut, lets, lets_one, net, out_of, wants, wants_one
from dyedpours.errors import NoMixing
from dyedpours.forms import is_spot
from dyedpours.mixings import dye_of, is_fitting
from dyedpours.moves import all_spots, check_spot
from dyedpours.networks import cut_of, fault_in, flow_of, row_of
from dyedpours.values import is_integer


def fitting(yard):
    """Any mixing that fits, or what shows that none does."""
    flow = flow_of(yard, ())
    fault = fault_in(yard, flow)
    return ("mixing", row_of(yard, flow)) if fault is None else fault


def is_torn(yard, spot):
    """Whether the low of this spot is greater than its high."""
    low, high = bounds(yard, spot)
    return low > high


def is_torn_cut(yard, cut):
    """Whether more must go out of this cut than may go into it, or more into it than out of it."""
    come, gone = into(yard, cut), out_of(yard, cut)
    return net(yard, gone, come, 0) > 0 or net(yard, come, gone, 0) > 0


def shows_fitting(yard, value):
    """Whether any value is right as what fitting tells."""
    if not isinstance(value, tuple) or len(value) != 2:
        return False
    word, told = value
    if word == "mixing":
        return is_fitting(yard, told)
    if word == "spot":
        return is_spot(told, yard.vessels, len(yard)) and is_torn(yard, told)
    return word == "cut" and is_cut(yard, told) and is_torn_cut(yard, told)


def fitted_flow(yard, lot):
    """The flow of this yard, going by some mixing that fits; NoMixing if there is none."""
    flow = flow_of(yard, lot)
    if fault_in(yard, flow) is not None:
        raise NoMixing(yard)
    return flow


def check_some(yard):
    """NoMixing unless some mixing fits."""
    fitted_flow(yard, ())


def extreme(yard, flow, stretch, way):
    """The most (way 1) or the least (way -1) that can go along this stretch, a row for it, and a cut that shows it."""
    bound = flow.highs[stretch] if way > 0 else flow.lows[stretch]
    came = flow.lead(stretch, way, bound)
    cut = () if came is None else cut_of(yard, came)
    return (flow.along[stretch], row_of(yard, flow), cut)


def extreme_of_lot(yard, lot, way):
    """The most (way 1) or the least (way -1) dye of this lot, with a row and a cut."""
    check_some(yard)
    check_lot(yard, lot)
    flow = fitted_flow(yard, lot)
    return extreme(yard, flow, len(flow.along) - 1, way)


def extreme_of_spot(yard, spot, way):
    """The most (way 1) or the least (way -1) dye of this spot, with a row and a cut."""
    flow = fitted_flow(yard, ())
    check_spot(yard, spot)
    return extreme(yard, flow, all_spots(yard).index(spot), way)


def greatest(yard, lot):
    """The greatest dye that this lot has by mixings that fit, such a mixing, and a cut that lets it have no more."""
    return extreme_of_lot(yard, lot, 1)


def least(yard, lot):
    """The least dye that this lot has by mixings that fit, such a mixing, and a cut that wants no less of it."""
    return extreme_of_lot(yard, lot, -1)


def highest(yard, spot):
    """The greatest dye that this spot has by mixings that fit, such a mixing, and a cut that lets it have no more."""
    return extreme_of_spot(yard, spot, 1)


def lowest(yard, spot):
    """The least dye that this spot has by mixings that fit, such a mixing, and a cut that wants no less of it."""
    return extreme_of_spot(yard, spot, -1)


def is_proof(yard, value):
    """Whether any value is a number, a mixing that fits, and a cut."""
    if not isinstance(value, tuple) or len(value) != 3 or not is_integer(value[0]):
        return False
    return is_fitting(yard, value[1]) and is_cut(yard, value[2])


def lot_dye(yard, row, lot):
    """The dye of this lot by this mixing."""
    return sum([dye_of(yard, row, yard.ends[number]) for number in lot])


def shows_greatest(yard, lot, value):
    """Whether any value is right as what greatest tells."""
    check_some(yard)
    check_lot(yard, lot)
    return is_proof(yard, value) and value[0] == lot_dye(yard, value[1], lot) == lets(yard, lot, value[2])


def shows_least(yard, lot, value):
    """Whether any value is right as what least tells."""
    check_some(yard)
    check_lot(yard, lot)
    return is_proof(yard, value) and value[0] == lot_dye(yard, value[1], lot) == wants(yard, lot, value[2])


def shows_highest(yard, spot, value):
    """Whether any value is right as what highest tells."""
    check_some(yard)
    check_spot(yard, spot)
    return is_proof(yard, value) and value[0] == dye_of(yard, value[1], spot) == lets_one(yard, spot, value[2])


def shows_lowest(yard, spot, value):
    """Whether any value is right as what lowest tells."""
    check_some(yard)
    check_spot(yard, spot)
    return is_proof(yard, value) and value[0] == dye_of(yard, value[1], spot) == wants_one(yard, spot, value[2])


def ranges(yard):
    """The least and the greatest dye of each spot by mixings that fit."""
    flow = fitted_flow(yard, ())
    found = []
    for stretch, _ in enumerate(all_spots(yard)):
        low = extreme(yard, flow, stretch, -1)[0]
        found.append((low, extreme(yard, flow, stretch, 1)[0]))
    return tuple(found)
