"""From one mixing to another one, grain by grain."""

from dyedpours.boxes import rows_of
from dyedpours.errors import TooMany
from dyedpours.every import MOST_MIXINGS
from dyedpours.mixings import check_fitting, is_fitting
from dyedpours.networks import flow_by, row_of


def check_both(yard, one, other):
    """NotMixing unless both are mixings that fit."""
    check_fitting(yard, one)
    check_fitting(yard, other)


def rows_between(yard, one, other, most):
    """The first mixings that fit and lie between these two, themselves among them, ascending, so many at the most."""
    flow = flow_by(yard, one)
    for step in range(len(yard)):
        flow.lows[step] = min(one[step], other[step])
        flow.highs[step] = max(one[step], other[step])
    return rows_of(flow, list(range(len(yard))), most)


def between(yard, one, other):
    """Whether a mixing that fits, unlike both, lies between these two."""
    check_both(yard, one, other)
    # These two are among them, so a third one is unlike both.
    return len(rows_between(yard, one, other, 3)) == 3


def ring_of(flow, rest):
    """The (stretch, way) of a ring along which some of what is left to change goes round."""
    stretch = [part for part, much in enumerate(rest) if much != 0][0]
    node = flow.tails[stretch] if rest[stretch] > 0 else flow.heads[stretch]
    trail, met = [], {}
    while node not in met:
        met[node] = len(trail)
        # As much is left to come to each node as to go from it, so some stretch leads on.
        stretch, node, way = [part for part in flow.touching[node] if rest[part[0]] * part[2] > 0][0]
        trail.append((stretch, way))
    return trail[met[node]:]


def path(yard, one, other):
    """Mixings that fit from one to other, each near the one ahead of it and on the way to other."""
    check_both(yard, one, other)
    flow, goal = flow_by(yard, one), flow_by(yard, other)
    rest = [goal.along[stretch] - much for stretch, much in enumerate(flow.along)]
    rows = [one]
    while rows[-1] != other:
        for stretch, way in ring_of(flow, rest):
            flow.along[stretch] += way
            rest[stretch] -= way
        rows.append(row_of(yard, flow))
    return tuple(rows)


def leads_on(row, its, other):
    """Whether its is another row than row, near it, and lies between it and other."""
    if row == its:
        return False
    return all([
        abs(number - row[step]) <= 1 and min(row[step], other[step]) <= number <= max(row[step], other[step])
        for step, number in enumerate(its)
    ])


def shows_path(yard, one, other, value):
    """Whether any value is right as what path tells."""
    check_both(yard, one, other)
    if not isinstance(value, tuple) or len(value) == 0 or not all([is_fitting(yard, row) for row in value]):
        return False
    if value[0] != one or value[-1] != other:
        return False
    return all([leads_on(value[at], value[at + 1], other) for at in range(len(value) - 1)])


def way_left(row, other):
    """How far row is from other, all steps together."""
    return sum([abs(number - other[step]) for step, number in enumerate(row)])


def longest(yard, one, other):
    """How many mixings the longest path from one to other has."""
    check_both(yard, one, other)
    rows = rows_between(yard, one, other, MOST_MIXINGS + 1)
    if len(rows) > MOST_MIXINGS:
        raise TooMany(MOST_MIXINGS)
    ways = {}
    # What leads on is less far from other: so all that a row leads on to was reckoned ahead of it.
    for _, row in sorted([(way_left(row, other), row) for row in rows]):
        ways[row] = 1 + max([ways[its] for its in ways if leads_on(row, its, other)], default=0)
    return ways[one]
