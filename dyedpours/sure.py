"""What samples make sure."""

from dyedpours.cuts import is_cut, lets_one, wants_one
from dyedpours.errors import BadSample
from dyedpours.forms import is_sample
from dyedpours.lots import check_some, fitted_flow, highest, lowest, ranges
from dyedpours.mixings import is_fitting, keeps
from dyedpours.moves import all_spots
from dyedpours.networks import row_of


def check_claim(yard, claim):
    """NoMixing unless some mixing fits; BadSample unless claim is a sample of the yard, whether it has it or not."""
    check_some(yard)
    if not is_sample(claim, yard.vessels, len(yard)):
        raise BadSample(claim)


def row_with(yard, spot, number):
    """A mixing that fits in which this spot has just this dye, which it can have."""
    flow = fitted_flow(yard, ())
    stretch = all_spots(yard).index(spot)
    flow.lead(stretch, 1 if flow.along[stretch] < number else -1, number)
    return row_of(yard, flow)


def sure(yard, claim):
    """Whether all mixings that fit keep this claim, or none, or some, with what shows it."""
    check_claim(yard, claim)
    word, number, spot = claim
    low, low_row, low_cut = lowest(yard, spot)
    high, high_row, high_cut = highest(yard, spot)
    if word != "most" and high < number:
        return ("never", high_cut)
    if word != "least" and low > number:
        return ("never", low_cut)
    too_low, too_high = word != "most" and low < number, word != "least" and high > number
    if too_low or too_high:
        return ("open", row_with(yard, spot, min(high, max(low, number))), low_row if too_low else high_row)
    return ("surely", ((low_cut,) if word != "most" else ()) + ((high_cut,) if word != "least" else ()))


def makes_sure(yard, claim, cuts):
    """Whether any value is a tuple of the cuts by which no mixing that fits can but keep this claim."""
    word, number, spot = claim
    if not isinstance(cuts, tuple) or len(cuts) != (2 if word == "is" else 1):
        return False
    if not all([is_cut(yard, cut) for cut in cuts]):
        return False
    wanted = word == "most" or wants_one(yard, spot, cuts[0]) >= number
    return wanted and (word == "least" or lets_one(yard, spot, cuts[-1]) <= number)


def bars(yard, claim, cut):
    """Whether any value is a cut by which no mixing that fits can keep this claim."""
    word, number, spot = claim
    if not is_cut(yard, cut):
        return False
    if word != "most" and lets_one(yard, spot, cut) < number:
        return True
    return word != "least" and wants_one(yard, spot, cut) > number


def shows_sure(yard, claim, value):
    """Whether any value is right as what sure tells."""
    check_claim(yard, claim)
    if not isinstance(value, tuple) or len(value) not in (2, 3):
        return False
    if len(value) == 3:
        rows = value[1:]
        if value[0] != "open" or not all([is_fitting(yard, row) for row in rows]):
            return False
        return keeps(yard, rows[0], claim) and not keeps(yard, rows[1], claim)
    if value[0] == "surely":
        return makes_sure(yard, claim, value[1])
    return value[0] == "never" and bars(yard, claim, value[1])


def sure_dye(yard):
    """All spots that have some dye by each mixing that fits."""
    told = ranges(yard)
    return tuple([spot for at, spot in enumerate(all_spots(yard)) if told[at][0] > 0])


def clean(yard):
    """All spots that have no dye by any mixing that fits."""
    told = ranges(yard)
    return tuple([spot for at, spot in enumerate(all_spots(yard)) if told[at][1] == 0])
