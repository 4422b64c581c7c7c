"""Yards beside one another: which outcomes can come of the one, and of the other; samples are left aside."""

from dyedpours.cuts import is_lot
from dyedpours.errors import Unlike
from dyedpours.exchange import swapped
from dyedpours.lots import greatest, lot_dye
from dyedpours.mixings import check_mixing, dye_of, is_mixing
from dyedpours.moves import end_amounts
from dyedpours.standing import dyed_in
from dyedpours.tables import most_of_lots
from dyedpours.values import are_integers, tuples_of
from dyedpours.yards import Yard, stand_so, yard_of


def check_like(one, other):
    """Unlike unless other is a Yard with the same vessels, and as many ends with the same amounts."""
    if not isinstance(other, Yard) or one.vessels != other.vessels or end_amounts(one) != end_amounts(other):
        raise Unlike(other)


def less_than(one, other):
    """Whether each outcome that can come of one can come of other, or why not."""
    check_like(one, other)
    number, its = dyed_in(one), dyed_in(other)
    if number != its:
        return ("all", number, its)
    had, most = most_of_lots(one), most_of_lots(other)
    over = [lot for lot in tuples_of(len(one.ends)) if had[lot] > most[lot]]
    # The most of all lots tells all outcomes: those with all the dye, and no more of it in any lot.
    return ("within",) if len(over) == 0 else ("lot", over[0], greatest(one.bare(), over[0])[1])


def goes_beyond(one, other, lot, row):
    """Whether any two values are a lot, and a mixing of one by which it has more than by any of other."""
    if not is_lot(one, lot) or not is_mixing(one, row):
        return False
    return lot_dye(one, row, lot) > most_of_lots(other)[lot]


def shows_less_than(one, other, value):
    """Whether any value is right as what less_than tells."""
    check_like(one, other)
    if not isinstance(value, tuple) or len(value) not in (1, 3):
        return False
    if len(value) == 1:
        return value[0] == "within" and less_than(one, other) == ("within",)
    whole = (dyed_in(one), dyed_in(other))
    if whole[0] != whole[1]:
        return value[0] == "all" and are_integers(value[1:], 2) and value[1:] == whole
    return value[0] == "lot" and goes_beyond(one, other, value[1], value[2])


def even(one, other):
    """Whether the same outcomes can come of both, or why not."""
    told, its = less_than(one, other), less_than(other, one)
    if told != ("within",):
        return ("one", told)
    return ("alike",) if its == ("within",) else ("other", its)


def shows_even(one, other, value):
    """Whether any value is right as what even tells."""
    check_like(one, other)
    if not isinstance(value, tuple) or len(value) not in (1, 2):
        return False
    if len(value) == 1:
        return value[0] == "alike" and even(one, other) == ("alike",)
    word, told = value
    if told == ("within",):
        return False
    if word == "one":
        return shows_less_than(one, other, told)
    return word == "other" and shows_less_than(other, one, told)


def is_harmless(yard, number):
    """Whether this step and the next one, no draws, can change places, and the same outcomes come then."""
    steps = swapped(yard.steps, number)
    if "draw" in (steps[number][0], steps[number + 1][0]) or not stand_so(yard.vessels, steps):
        return False
    return even(yard, yard_of(yard.vessels, steps, ())) == ("alike",)


def harmless(yard):
    """The numbers of all steps that can change places with the next one, so that the same outcomes come then."""
    return tuple([number for number in range(len(yard) - 1) if is_harmless(yard, number)])


def outcome(yard, row):
    """How much dye each end has by this mixing."""
    check_mixing(yard, row)
    return tuple([dye_of(yard, row, end) for end in yard.ends])
