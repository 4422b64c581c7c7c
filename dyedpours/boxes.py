"""All rows of a flow within the bounds of its steps, gone through from the least one on."""

from dyedpours.flows import hold


def settle(flow, first, many):
    """From this step on let each have as little as can be, one behind the other, and hold it there."""
    for step in range(first, many):
        flow.lead(step, -1, flow.lows[step])
        hold(flow, step)


def go_on(flow, lows, highs):
    """Go on from the row that is held to the next greater one within these bounds; whether there is one."""
    for step in reversed(range(len(lows))):
        if flow.along[step] < highs[step] and flow.lead(step, 1, flow.along[step] + 1) is None:
            hold(flow, step)
            settle(flow, step + 1, len(lows))
            return True
        flow.lows[step], flow.highs[step] = lows[step], highs[step]
    return False


def rows_of(flow, many, most):
    """The first rows, ascending, so many at the most, of a flow that goes already; many is how many steps there are."""
    lows, highs = flow.lows[:many], flow.highs[:many]
    settle(flow, 0, many)
    rows = [tuple(flow.along[:many])]
    while len(rows) < most and go_on(flow, lows, highs):
        rows.append(tuple(flow.along[:many]))
    return tuple(rows)
