"""What leaks when some ends are called back, and which ends surely have dye, or none."""

from dyedpours.cuts import check_lot
from dyedpours.lots import check_some, greatest, least
from dyedpours.moves import end_amounts


def others_of(yard, lot):
    """The lot of all other ends."""
    check_lot(yard, lot)
    return tuple([number for number in range(len(yard.ends)) if number not in lot])


def leak(yard, lot):
    """The greatest dye that all ends but these have together by mixings that fit."""
    check_some(yard)
    return greatest(yard, others_of(yard, lot))[0]


def least_caught(yard, lot):
    """The least dye that these ends have together by mixings that fit."""
    return least(yard, lot)[0]


def waste(yard, lot):
    """The greatest clean grain that these ends have together by mixings that fit."""
    caught = least_caught(yard, lot)
    amounts = end_amounts(yard)
    return sum([amounts[number] for number in lot]) - caught


def worst(yard):
    """The greatest dye that each end has by mixings that fit, in sequence."""
    return tuple([greatest(yard, (number,))[0] for number in range(len(yard.ends))])


def safe(yard):
    """The lot of all ends that have no dye by any mixing that fits."""
    return tuple([number for number, most in enumerate(worst(yard)) if most == 0])


def sure_ends(yard):
    """The lot of all ends that have some dye by each mixing that fits."""
    return tuple([number for number in range(len(yard.ends)) if least_caught(yard, (number,)) > 0])
