"""What moves: from which vessel and into which one, and which spots are the same grain."""

from dyedpours.errors import BadMoment, BadSpot, NoEnd, NoGlass, NoStep, NoVessel
from dyedpours.forms import is_spot, vessel_brought, vessel_taken
from dyedpours.values import is_within


def check_step(yard, number):
    """NoStep unless number is that of a step."""
    if not is_within(number, 0, len(yard) - 1):
        raise NoStep(number)


def check_spot(yard, spot):
    """BadSpot unless spot is one of the yard."""
    if not is_spot(spot, yard.vessels, len(yard)):
        raise BadSpot(spot)


def check_moment(yard, moment):
    """BadMoment unless moment is one of the yard."""
    if not is_within(moment, 0, len(yard)):
        raise BadMoment(moment)


def check_end(yard, number):
    """NoEnd unless number is that of an end."""
    if not is_within(number, 0, len(yard.ends) - 1):
        raise NoEnd(number)


def taken(yard, number):
    """The vessel from which the step with this number takes; None if there is none."""
    check_step(yard, number)
    return vessel_taken(yard.steps[number])


def brought(yard, number):
    """The vessel into which the step with this number brings; None if there is none."""
    check_step(yard, number)
    return vessel_brought(yard.steps[number])


def meets(yard, vessel):
    """The numbers of all steps that take from this vessel or bring into it, ascending."""
    if vessel not in yard:
        raise NoVessel(vessel)
    return tuple([
        number for number, step in enumerate(yard.steps)
        if vessel in (vessel_taken(step), vessel_brought(step))
    ])


def all_spots(yard):
    """All spots: those by steps, then those in vessels, moment by moment."""
    spots = [("by", number) for number in range(len(yard))]
    for moment in range(1, len(yard) + 1):
        spots.extend([("in", vessel, moment) for vessel in yard.vessels])
    return tuple(spots)


def still(yard, spot):
    """All spots that are surely the same grain as this one."""
    check_spot(yard, spot)
    if spot[0] == "by":
        return (spot,)
    vessel, low, high = spot[1], spot[2], spot[2]
    met = meets(yard, vessel)
    # Step number m leads from moment m to moment m + 1.
    while low > 1 and low - 1 not in met:
        low -= 1
    while high < len(yard) and high not in met:
        high += 1
    return tuple([("in", vessel, moment) for moment in range(low, high + 1)])


def glass(yard, number):
    """The number of the step that drew the end with this number."""
    check_end(yard, number)
    if number < len(yard.vessels):
        raise NoGlass(number)
    return yard.ends[number][1]


def end_of(yard, spot):
    """The number of the end that is this spot; None if it is none."""
    check_spot(yard, spot)
    return yard.ends.index(spot) if spot in yard.ends else None


def end_amounts(yard):
    """How much each end is; nothing without steps, where the ends are no spots."""
    return tuple([yard.amount(end) if len(yard) > 0 else 0 for end in yard.ends])
