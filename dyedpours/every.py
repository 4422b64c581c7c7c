"""All mixings that fit, one behind the other."""

from dyedpours.boxes import go_on, rows_of
from dyedpours.errors import TooMany
from dyedpours.flows import hold
from dyedpours.mixings import check_fitting
from dyedpours.moves import check_step
from dyedpours.networks import fault_in, flow_by, flow_of, row_of

MOST_MIXINGS = 300


def every(yard):
    """All mixings that fit, ascending."""
    flow = flow_of(yard, ())
    if fault_in(yard, flow) is not None:
        return ()
    rows = rows_of(flow, list(range(len(yard))), MOST_MIXINGS + 1)
    if len(rows) > MOST_MIXINGS:
        raise TooMany(MOST_MIXINGS)
    return rows


def numbers_of(yard, step):
    """All numbers that this step has in some mixing that fits, ascending."""
    check_step(yard, step)
    return tuple(sorted(set([row[step] for row in every(yard)])))


def next_mixing(yard, row):
    """The least mixing that fits and is greater than this one; None if there is none."""
    check_fitting(yard, row)
    flow, steps = flow_by(yard, row), list(range(len(yard)))
    lows, highs = list(flow.lows), list(flow.highs)
    for step in steps:
        hold(flow, step)
    return row_of(yard, flow) if go_on(flow, steps, lows, highs) else None
