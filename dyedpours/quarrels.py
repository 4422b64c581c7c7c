"""Samples that no mixing keeps all, and which ones to leave out."""

from dyedpours.lots import fitting, shows_fitting
from dyedpours.mixings import is_fitting
from dyedpours.needless import all_but, by_samples, numbers_in
from dyedpours.values import are_numbers, tuples_of


def has_one(numbers, others):
    """Whether these numbers have all those of one of the others among them."""
    return any([all([part in numbers for part in other]) for other in others])


def quarrels(yard):
    """All least torn tuples of numbers of samples, ascending."""
    found = []
    # Those of fewer numbers come first, so a torn tuple is a least one unless it has one that was found.
    for numbers in tuples_of(len(yard.samples)):
        if not has_one(numbers, found) and torn(yard, numbers)[0] != "mixing":
            found.append(numbers)
    return tuple(sorted(found))


def torn(yard, numbers):
    """What fitting tells of the Yard with just these samples."""
    return fitting(by_samples(yard, numbers))


def shows_torn(yard, numbers, value):
    """Whether any value is right as what torn tells."""
    return shows_fitting(by_samples(yard, numbers), value)


def yard_without(yard, numbers):
    """The Yard without these samples."""
    return by_samples(yard, all_but(numbers_in(yard), numbers))


def mended(yard):
    """The first samples without which some mixing fits, such a mixing, and why those ahead will not do."""
    left_out, reasons = tuples_of(len(yard.samples)), []
    told = fitting(yard_without(yard, left_out[0]))
    # Without any samples some mixing fits.
    while told[0] != "mixing":
        reasons.append(told)
        told = fitting(yard_without(yard, left_out[len(reasons)]))
    return (left_out[len(reasons)], told[1], tuple(reasons))


def is_reason(yard, numbers, value):
    """Whether any value shows that without these samples no mixing fits."""
    return shows_fitting(yard_without(yard, numbers), value) and value[0] != "mixing"


def shows_mended(yard, value):
    """Whether any value is right as what mended tells."""
    if not isinstance(value, tuple) or len(value) != 3:
        return False
    numbers, row, reasons = value
    if not are_numbers(numbers, len(yard.samples)) or not isinstance(reasons, tuple):
        return False
    left_out = tuples_of(len(yard.samples))
    if len(reasons) != left_out.index(numbers) or not is_fitting(yard_without(yard, numbers), row):
        return False
    return all([is_reason(yard, left_out[at], reason) for at, reason in enumerate(reasons)])


def blamed(yard):
    """In how many quarrels each sample is, in sequence."""
    found = quarrels(yard)
    return tuple([len([numbers for numbers in found if number in numbers]) for number in numbers_in(yard)])
