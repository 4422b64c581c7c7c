"""The flow of a yard: its places are nodes, its spots stretches, and its mixings that fit all flows within bounds."""

from dyedpours.cuts import bounds, leaves, reaches
from dyedpours.flows import Flow
from dyedpours.mixings import all_stands
from dyedpours.moves import all_spots


def place_node(yard, place):
    """The node of this place; the one behind all places for None, which is all that is outside."""
    if place is None:
        return len(yard.vessels) * len(yard)
    return yard.vessels.index(place[0]) * len(yard) + place[1]


def flow_of(yard, lot):
    """The flow of this yard, nothing going yet: all spots in sequence, and behind them the ends of the lot together.

    These lead to a node of their own, and a last stretch from there to outside.
    """
    outside = place_node(yard, None)
    flow = Flow(outside + 2)
    ends = [yard.ends[number] for number in lot]
    low, high = 0, 0
    for spot in all_spots(yard):
        least, most = bounds(yard, spot)
        head = place_node(yard, reaches(yard, spot))
        if spot in ends:
            low, high, head = low + least, high + most, outside + 1
        flow.lay(place_node(yard, leaves(yard, spot)), head, least, most)
    flow.lay(outside + 1, outside, low, high)
    return flow


def cut_of(yard, came):
    """The cut of all places on that side of what was reached that has not what is outside."""
    outer = came[place_node(yard, None)] is not None
    return tuple(sorted([
        (vessel, step) for vessel in yard.vessels for step in range(len(yard))
        if (came[place_node(yard, (vessel, step))] is None) == outer
    ]))


def fault_in(yard, flow):
    """Lead as much along all stretches as they need; what shows that this cannot be, as fitting tells it, or None."""
    for stretch, spot in enumerate(all_spots(yard)):
        if flow.lows[stretch] > flow.highs[stretch]:
            return ("spot", spot)
    for stretch, low in enumerate(flow.lows):
        came = flow.lead(stretch, 1, low) if flow.along[stretch] < low else None
        if came is not None:
            return ("cut", cut_of(yard, came))
    return None


def row_of(yard, flow):
    """The row by which this flow goes."""
    return tuple(flow.along[:len(yard)])


def flow_by(yard, row):
    """The flow of this yard that goes by this row."""
    flow = flow_of(yard, ())
    flow.along = list(row) + [much for stand in all_stands(yard, row)[1:] for much in stand] + [0]
    return flow
