"""The cheapest changes of steps by which wishes are kept; samples are left aside."""

from dyedpours.cuts import is_cut, is_lot, lets, wants
from dyedpours.errors import BadChoice, BadOffers, BadWishes
from dyedpours.forms import MOST_AMOUNT, MOST_NUMBER
from dyedpours.lots import greatest, least, lot_dye
from dyedpours.mixings import is_mixing
from dyedpours.recalls import MOST_PRICE
from dyedpours.values import are_numbers, is_integer, is_within, tuples_of
from dyedpours.yards import stand_so, yard_of

MOST_OFFERS = 5
MOST_WISHES = 3


def is_offer(yard, value):
    """Whether any value is an offer for this yard."""
    if not isinstance(value, tuple) or len(value) not in (3, 4):
        return False
    if not is_within(value[1], 0, len(yard) - 1) or yard.steps[value[1]][0] == "draw":
        return False
    if not is_within(value[-1], 1, MOST_PRICE):
        return False
    if len(value) == 3:
        return value[0] == "out"
    return value[0] == "amount" and is_within(value[2], 1, MOST_AMOUNT)


def check_offers(yard, offers):
    """BadOffers unless offers are a tuple of one to five unlike offers."""
    if not isinstance(offers, tuple) or not 1 <= len(offers) <= MOST_OFFERS:
        raise BadOffers(offers)
    if not all([is_offer(yard, value) for value in offers]) or len(set(offers)) < len(offers):
        raise BadOffers(offers)


def is_choice(offers, value):
    """Whether any value is an ascending tuple of numbers of offers, no two of one step."""
    if not are_numbers(value, len(offers)):
        return False
    return len(set([offers[number][1] for number in value])) == len(value)


def is_wish(yard, value):
    """Whether any value is a wish for this yard."""
    if not isinstance(value, tuple) or len(value) != 3 or value[0] not in ("most", "least"):
        return False
    return is_lot(yard, value[1]) and is_within(value[2], 0, MOST_NUMBER)


def check_wishes(yard, wishes):
    """BadWishes unless wishes are a tuple of one to three unlike wishes."""
    if not isinstance(wishes, tuple) or not 1 <= len(wishes) <= MOST_WISHES:
        raise BadWishes(wishes)
    if not all([is_wish(yard, value) for value in wishes]) or len(set(wishes)) < len(wishes):
        raise BadWishes(wishes)


def steps_by(yard, offers, choice):
    """The steps with the changes of these offers, all at once."""
    steps = []
    for number, step in enumerate(yard.steps):
        taken = [offers[at] for at in choice if offers[at][1] == number]
        if len(taken) == 0:
            steps.append(step)
        elif taken[0][0] == "amount":
            steps.append(step[:-1] + (taken[0][2],))
    return tuple(steps)


def changed_by(yard, offers, choice):
    """The Yard, without samples, by this choice; None if its text is none of a Yard."""
    steps = steps_by(yard, offers, choice)
    return yard_of(yard.vessels, steps, ()) if stand_so(yard.vessels, steps) else None


def by_choice(yard, offers, choice):
    """The Yard, without samples, by this choice; None if it does not count."""
    check_offers(yard, offers)
    if not is_choice(offers, choice):
        raise BadChoice(choice)
    return changed_by(yard, offers, choice)


def price_by(offers, choice):
    """The prices of these offers together."""
    return sum([offers[number][-1] for number in choice])


def all_that_count(yard, offers):
    """All choices that count, in sequence, each as (price, choice, its Yard)."""
    choices = [choice for choice in tuples_of(len(offers)) if is_choice(offers, choice)]
    ranked = sorted([(price_by(offers, choice), len(choice), choice) for choice in choices])
    found = [(price, choice, changed_by(yard, offers, choice)) for price, _, choice in ranked]
    return [part for part in found if part[2] is not None]


def told_of_wish(changed, wish):
    """Whether this yard keeps the wish, with a cut that shows that it does, or a mixing that shows that it does not."""
    word, lot, number = wish
    most, row, cut = greatest(changed, lot) if word == "most" else least(changed, lot)
    kept = most <= number if word == "most" else most >= number
    return (kept, cut if kept else row)


def cheapest(yard, offers, wishes):
    """The first choice by whose yard all wishes are kept, with what shows it; or what shows that there is none."""
    check_offers(yard, offers)
    check_wishes(yard, wishes)
    reasons = []
    for price, choice, changed in all_that_count(yard, offers):
        told = [told_of_wish(changed, wish) for wish in wishes]
        lacking = [number for number, (kept, _) in enumerate(told) if not kept]
        if len(lacking) == 0:
            return ("choice", price, choice, tuple([cut for _, cut in told]), tuple(reasons))
        reasons.append((choice, lacking[0], told[lacking[0]][1]))
    return ("none", tuple(reasons))


def keeps_by(changed, wish, cut):
    """Whether any value is a cut by which this yard cannot but keep the wish."""
    word, lot, number = wish
    if not is_cut(changed, cut):
        return False
    return lets(changed, lot, cut) <= number if word == "most" else wants(changed, lot, cut) >= number


def breaks_by(changed, wish, row):
    """Whether any value is a mixing by which this yard does not keep the wish."""
    word, lot, number = wish
    if not is_mixing(changed, row):
        return False
    told = lot_dye(changed, row, lot)
    return told > number if word == "most" else told < number


def is_reason(offers, wishes, part, value):
    """Whether any value shows that the yard of this part, (price, choice, its Yard), does not keep all wishes."""
    if not isinstance(value, tuple) or len(value) != 3:
        return False
    choice, number, row = value
    if not is_choice(offers, choice) or choice != part[1] or not is_within(number, 0, len(wishes) - 1):
        return False
    return breaks_by(part[2], wishes[number], row)


def are_reasons(offers, wishes, parts, value):
    """Whether any value is a tuple of reasons, one for each of these parts."""
    if not isinstance(value, tuple) or len(value) != len(parts):
        return False
    return all([is_reason(offers, wishes, part, reason) for part, reason in zip(parts, value)])


def shows_choice(wishes, part, price, cuts):
    """Whether any values are the price of this part, and cuts by which its yard keeps all wishes."""
    if not is_integer(price) or price != part[0] or not isinstance(cuts, tuple) or len(cuts) != len(wishes):
        return False
    return all([keeps_by(part[2], wish, cut) for wish, cut in zip(wishes, cuts)])


def shows_cheapest(yard, offers, wishes, value):
    """Whether any value is right as what cheapest tells."""
    check_offers(yard, offers)
    check_wishes(yard, wishes)
    if not isinstance(value, tuple) or len(value) not in (2, 5):
        return False
    parts = all_that_count(yard, offers)
    if len(value) == 2:
        return value[0] == "none" and are_reasons(offers, wishes, parts, value[1])
    word, price, choice, cuts, reasons = value
    choices = [part[1] for part in parts]
    if word != "choice" or not is_choice(offers, choice) or choice not in choices:
        return False
    at = choices.index(choice)
    return shows_choice(wishes, parts[at], price, cuts) and are_reasons(offers, wishes, parts[:at], reasons)
