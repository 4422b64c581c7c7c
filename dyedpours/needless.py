"""Which samples tell nothing beside the others, and which yards' samples tell no more than another one's."""

from dyedpours.errors import BadNumbers, OtherSteps
from dyedpours.lots import check_some, fitting
from dyedpours.mixings import broken, is_fitting
from dyedpours.sure import sure
from dyedpours.values import are_numbers, is_integer
from dyedpours.yards import Yard, yard_of


def check_numbers(yard, numbers):
    """BadNumbers unless numbers is an ascending tuple of numbers of samples."""
    if not are_numbers(numbers, len(yard.samples)):
        raise BadNumbers(numbers)


def by_samples(yard, numbers):
    """The Yard with just these samples."""
    check_numbers(yard, numbers)
    return yard_of(yard.vessels, yard.steps, [yard.samples[number] for number in numbers])


def all_but(numbers, left_out):
    """These numbers but those that are left out."""
    return tuple([number for number in numbers if number not in left_out])


def is_needless(yard, numbers, number):
    """Whether each mixing that keeps all others of these samples keeps the one of this number, too."""
    others = by_samples(yard, all_but(numbers, (number,)))
    return sure(others, yard.samples[number])[0] == "surely"


def numbers_in(yard):
    """The numbers of all samples."""
    return tuple(range(len(yard.samples)))


def needless(yard):
    """The numbers of all samples each of which, by itself, tells nothing beside all others."""
    check_some(yard)
    numbers = numbers_in(yard)
    return tuple([number for number in numbers if is_needless(yard, numbers, number)])


def thinned(yard):
    """The numbers of the samples that are left if needless ones are left out, from the last one to the first one."""
    check_some(yard)
    left = numbers_in(yard)
    for number in numbers_in(yard)[::-1]:
        if is_needless(yard, left, number):
            left = all_but(left, (number,))
    return left


def check_steps(one, other):
    """OtherSteps unless other is a Yard with the same vessels and steps."""
    if not isinstance(other, Yard) or (one.vessels, one.steps) != (other.vessels, other.steps):
        raise OtherSteps(other)


def row_beyond(yard, sample):
    """A mixing that fits and does not keep this sample; None if there is none."""
    told = sure(yard, sample)
    if told[0] == "surely":
        return None
    return told[2] if told[0] == "open" else fitting(yard)[1]


def within(one, other):
    """Whether each mixing that fits one fits other; if not, one that does not, and the number of a sample."""
    check_steps(one, other)
    if fitting(one)[0] != "mixing":
        return ("within",)
    for number, sample in enumerate(other.samples):
        row = row_beyond(one, sample)
        if row is not None:
            return ("beyond", row, number)
    return ("within",)


def shows_within(one, other, value):
    """Whether any value is right as what within tells."""
    check_steps(one, other)
    if not isinstance(value, tuple) or len(value) not in (1, 3):
        return False
    if len(value) == 1:
        return value[0] == "within" and within(one, other) == ("within",)
    if value[0] != "beyond" or not is_fitting(one, value[1]):
        return False
    return is_integer(value[2]) and value[2] in broken(other, value[1])
