"""All rows of what can go along some stretches of a flow, within their bounds, from the least one on."""

from dyedpours.flows import hold


def settle(flow, stretches):
    """Let each of these stretches have as little as can be, one behind the other, and hold it there."""
    for stretch in stretches:
        flow.lead(stretch, -1, flow.lows[stretch])
        hold(flow, stretch)


def go_on(flow, stretches, lows, highs):
    """Go on from the row that is held to the next greater one within these bounds; whether there is one."""
    for at in reversed(range(len(stretches))):
        stretch = stretches[at]
        flow.lows[stretch], flow.highs[stretch] = lows[stretch], highs[stretch]
        much = flow.along[stretch]
        if much < highs[stretch] and flow.lead(stretch, 1, much + 1) is None:
            hold(flow, stretch)
            settle(flow, stretches[at + 1:])
            return True
    return False


def rows_of(flow, stretches, most):
    """The first rows along these stretches, ascending, so many at the most, of a flow that goes already."""
    lows, highs = list(flow.lows), list(flow.highs)
    settle(flow, stretches)
    rows = [row_along(flow, stretches)]
    while len(rows) < most and go_on(flow, stretches, lows, highs):
        rows.append(row_along(flow, stretches))
    return tuple(rows)


def row_along(flow, stretches):
    """What goes along each of these stretches."""
    return tuple([flow.along[stretch] for stretch in stretches])
