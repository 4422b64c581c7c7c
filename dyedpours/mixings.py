"""Mixings: how much of the grain that each step moves is dyed."""

from dyedpours.errors import BadRow, NotMixing
from dyedpours.forms import moved_on, vessel_taken
from dyedpours.moves import check_moment, check_spot
from dyedpours.values import are_integers


def room_of(yard, number, stand):
    """The least and the most dyed grain that this step can move, if so much dye stands in each vessel ahead."""
    step = yard.steps[number]
    if step[0] in ("fill", "dye"):
        given = 0 if step[0] == "fill" else step[-1]
        return (given, given)
    place = yard.vessels.index(vessel_taken(step))
    unclean = step[-1] - (yard.levels[number][place] - stand[place])
    return (max(0, unclean), min(step[-1], stand[place]))


def stand_behind(yard, number, stand, moved):
    """The dye in each vessel behind this step, if so much stands ahead and the step moves so much."""
    return moved_on(yard.vessels, stand, yard.steps[number], moved)


def all_stands(yard, row):
    """The dye in each vessel at each moment by this row."""
    stands_then = [(0,) * len(yard.vessels)]
    for number, moved in enumerate(row):
        stands_then.append(stand_behind(yard, number, stands_then[-1], moved))
    return stands_then


def fault_of(yard, number, stand, moved):
    """What is wrong if this step moves so much dye and so much stands ahead; None if nothing is."""
    step = yard.steps[number]
    least, most = room_of(yard, number, stand)
    if not 0 <= moved <= step[-1] or step[0] in ("fill", "dye") and moved != most:
        return "number"
    if moved > most:
        return "dye"
    return "clean" if moved < least else None


def is_row(yard, value):
    """Whether any value is a row of the yard."""
    return are_integers(value, len(yard))


def judged(yard, row):
    """Whether this row is a mixing, or its first step that is not as it should be."""
    if not is_row(yard, row):
        raise BadRow(row)
    stand = (0,) * len(yard.vessels)
    for number, moved in enumerate(row):
        fault = fault_of(yard, number, stand, moved)
        if fault is not None:
            return (fault, number)
        stand = stand_behind(yard, number, stand, moved)
    return ("mixing",)


def is_mixing(yard, value):
    """Whether any value is a mixing of the yard."""
    return is_row(yard, value) and judged(yard, value) == ("mixing",)


def check_mixing(yard, row):
    """NotMixing unless row is a mixing of the yard."""
    if not is_mixing(yard, row):
        raise NotMixing(row)


def dye_of(yard, row, spot):
    """The dye of this spot by a row that is a mixing."""
    if spot[0] == "by":
        return row[spot[1]]
    return all_stands(yard, row)[spot[2]][yard.vessels.index(spot[1])]


def dye(yard, row, spot):
    """The dye of this spot by this mixing."""
    check_mixing(yard, row)
    check_spot(yard, spot)
    return dye_of(yard, row, spot)


def stands(yard, row, moment):
    """The dye in each vessel at this moment by this mixing."""
    check_mixing(yard, row)
    check_moment(yard, moment)
    return all_stands(yard, row)[moment]


def keeps(yard, row, sample):
    """Whether this mixing keeps this sample."""
    word, number, spot = sample
    told = dye_of(yard, row, spot)
    if word == "is":
        return told == number
    return told >= number if word == "least" else told <= number


def broken(yard, row):
    """The numbers of the samples that this mixing does not keep, ascending."""
    check_mixing(yard, row)
    return tuple([number for number, sample in enumerate(yard.samples) if not keeps(yard, row, sample)])


def is_fitting(yard, value):
    """Whether any value is a mixing that fits."""
    return is_mixing(yard, value) and broken(yard, value) == ()


def check_fitting(yard, row):
    """NotMixing unless row is a mixing that fits."""
    if not is_fitting(yard, row):
        raise NotMixing(row)


def mixing_at(yard, end):
    """The mixing in which each step moves what room_of tells at this place: 0 the least, 1 the most."""
    row, stand = (), (0,) * len(yard.vessels)
    for number in range(len(yard)):
        moved = room_of(yard, number, stand)[end]
        row = row + (moved,)
        stand = stand_behind(yard, number, stand, moved)
    return row


def eager(yard):
    """The mixing in which each pour and each draw takes as much dyed grain as can be."""
    return mixing_at(yard, 1)


def shy(yard):
    """The mixing in which each pour and each draw takes as little dyed grain as can be."""
    return mixing_at(yard, 0)
