"""Which ends to call back, so that no more than so much leaks."""

from dyedpours.cuts import check_lot, is_cut, is_lot, lets
from dyedpours.errors import BadMost, BadPrices
from dyedpours.forms import MOST_NUMBER
from dyedpours.leaks import others_of, worst
from dyedpours.lots import check_some, greatest, lot_dye
from dyedpours.mixings import is_fitting
from dyedpours.quarrels import has_one
from dyedpours.tables import lot_with
from dyedpours.values import is_integer, is_within, tuples_of

MOST_PRICE = 99


def check_most(most):
    """BadMost unless most is an integer from 0 to 9999."""
    if not is_within(most, 0, MOST_NUMBER):
        raise BadMost(most)


def check_recall(yard, lot, most):
    """NoMixing unless some mixing fits; BadLot and BadMost for what is no lot, and no most."""
    check_some(yard)
    check_lot(yard, lot)
    check_most(most)


def told_of(yard, lot, most):
    """What holds tells of this lot."""
    number, row, cut = greatest(yard, others_of(yard, lot))
    return ("holds", cut) if number <= most else ("leaks", row)


def holds(yard, lot, most):
    """Whether no more than most leaks beside this lot, with what shows it."""
    check_recall(yard, lot, most)
    return told_of(yard, lot, most)


def stops(yard, lot, most, cut):
    """Whether any value is a cut that lets all ends but this lot have at most so much."""
    return is_cut(yard, cut) and lets(yard, others_of(yard, lot), cut) <= most


def rest_dye(yard, lot, row):
    """What all ends but this lot have by this mixing."""
    return lot_dye(yard, row, others_of(yard, lot))


def leaks_by(yard, lot, most, row):
    """Whether any value is a mixing that fits by which all ends but this lot have more than so much."""
    return is_fitting(yard, row) and rest_dye(yard, lot, row) > most


def shows_holds(yard, lot, most, value):
    """Whether any value is right as what holds tells."""
    check_recall(yard, lot, most)
    if not isinstance(value, tuple) or len(value) != 2:
        return False
    if value[0] == "holds":
        return stops(yard, lot, most, value[1])
    return value[0] == "leaks" and leaks_by(yard, lot, most, value[1])


def is_barred(lot, bars):
    """Whether this lot is within one of the lots of the bars."""
    return any([has_one(barred, (lot,)) for barred, _ in bars])


def bar_of(yard, lot, most, row):
    """A bar by this row, with all ends beside this lot, one behind the other, with which the rest has too much."""
    barred = lot
    for number in others_of(yard, lot):
        wider = lot_with(barred, number)
        if rest_dye(yard, wider, row) > most:
            barred = wider
    return (barred, row)


def holding(yard, most):
    """All lots that hold most, with no other such lot within them, in sequence."""
    check_some(yard)
    check_most(most)
    found, bars = [], []
    # What leaks by one mixing leaks by it, too, if fewer ends are called back; so few lots need be reckoned.
    for lot in tuples_of(len(yard.ends)):
        if not has_one(lot, found) and not is_barred(lot, bars):
            word, told = told_of(yard, lot, most)
            if word == "holds":
                found.append(lot)
            else:
                bars.append(bar_of(yard, lot, most, told))
    return tuple(found)


def vital(yard, most):
    """The lot of all ends that are in each lot that holds most."""
    told = worst(yard)
    check_most(most)
    # An end is in each such lot just if all others together do not hold.
    return tuple([number for number, dye in enumerate(told) if dye > most])


def first_of(yard, lots, most):
    """The first of these lots that holds most, a cut that shows it, and bars for all that stand ahead of it."""
    bars, at = [], 0
    word, told = told_of(yard, lots[at], most)
    # All ends together always hold.
    while word != "holds":
        bars.append(bar_of(yard, lots[at], most, told))
        while is_barred(lots[at], bars):
            at += 1
        word, told = told_of(yard, lots[at], most)
    return (lots[at], told, tuple(bars))


def is_bar(yard, most, value):
    """Whether any value is a lot, and a mixing that fits by which its rest has more than most."""
    if not isinstance(value, tuple) or len(value) != 2 or not is_lot(yard, value[0]):
        return False
    return leaks_by(yard, value[0], most, value[1])


def is_first_of(yard, lots, most, told):
    """Whether these three values are right as what first_of tells."""
    lot, cut, bars = told
    if not is_lot(yard, lot) or not stops(yard, lot, most, cut) or not isinstance(bars, tuple):
        return False
    if not all([is_bar(yard, most, value) for value in bars]):
        return False
    return all([is_barred(ahead, bars) for ahead in lots[:lots.index(lot)]])


def fewest(yard, most):
    """The first lot that holds most, a cut that shows it, and bars for all that stand ahead of it."""
    check_some(yard)
    check_most(most)
    return first_of(yard, tuples_of(len(yard.ends)), most)


def shows_fewest(yard, most, value):
    """Whether any value is right as what fewest tells."""
    check_some(yard)
    check_most(most)
    if not isinstance(value, tuple) or len(value) != 3:
        return False
    return is_first_of(yard, tuples_of(len(yard.ends)), most, value)


def check_prices(yard, prices, most):
    """NoMixing unless some mixing fits; BadPrices and BadMost for what are no prices, and no most."""
    check_some(yard)
    if not isinstance(prices, tuple) or len(prices) != len(yard.ends):
        raise BadPrices(prices)
    if not all([is_within(price, 1, MOST_PRICE) for price in prices]):
        raise BadPrices(prices)
    check_most(most)


def price_of(prices, lot):
    """The prices of these ends together."""
    return sum([prices[number] for number in lot])


def by_price(prices):
    """All lots of ends with these prices, by what they cost, then in sequence."""
    ranked = sorted([(price_of(prices, lot), len(lot), lot) for lot in tuples_of(len(prices))])
    return [part[2] for part in ranked]


def cheapest_lot(yard, prices, most):
    """The price of the cheapest lot that holds most, this lot, a cut that shows it, and bars for all ahead of it."""
    check_prices(yard, prices, most)
    lot, cut, bars = first_of(yard, by_price(prices), most)
    return (price_of(prices, lot), lot, cut, bars)


def shows_cheapest_lot(yard, prices, most, value):
    """Whether any value is right as what cheapest_lot tells."""
    check_prices(yard, prices, most)
    if not isinstance(value, tuple) or len(value) != 4 or not is_integer(value[0]):
        return False
    if not is_first_of(yard, by_price(prices), most, value[1:]):
        return False
    return value[0] == price_of(prices, value[1])
