"""Which dyes of the holders can stand at a moment; samples are left aside."""

from dyedpours.boxes import rows_of
from dyedpours.errors import BadDyes, TooMany
from dyedpours.every import MOST_MIXINGS
from dyedpours.mixings import dye_of, is_mixing
from dyedpours.moves import all_spots
from dyedpours.networks import fault_in, flow_of, row_of
from dyedpours.tables import most_at, table, yard_ahead
from dyedpours.values import are_integers, are_numbers, is_integer, tuples_of


def check_dyes(ahead, dyes):
    """BadDyes unless dyes is a tuple of integers, one for each end of the Yard of the steps ahead."""
    if not are_integers(dyes, len(ahead.ends)):
        raise BadDyes(dyes)


def dyed_in(ahead):
    """How much was dyed in all steps of this Yard."""
    return sum([step[-1] for step in ahead.steps if step[0] == "dye"])


def dye_in(dyes, lot):
    """The dye of these holders together."""
    return sum([dyes[number] for number in lot])


def end_stretches(ahead):
    """The stretches of all ends, in sequence; none without steps, as the ends are no spots then."""
    spots = all_spots(ahead)
    return [spots.index(end) for end in ahead.ends if end in spots]


def row_to(ahead, dyes):
    """The row of a mixing by which the ends have these dyes, which can stand."""
    flow = flow_of(ahead, ())
    for stretch, much in zip(end_stretches(ahead), dyes):
        flow.lows[stretch] = much
        flow.highs[stretch] = much
    fault_in(ahead, flow)
    return row_of(ahead, flow)


def can_stand(yard, moment, dyes):
    """The numbers of a mixing by which the holders have just these dyes then, or why there is none."""
    ahead = yard_ahead(yard, moment)
    check_dyes(ahead, dyes)
    whole = dyed_in(ahead)
    if sum(dyes) != whole:
        return ("all", whole)
    most = table(yard, moment)
    over = [lot for at, lot in enumerate(tuples_of(len(dyes))) if dye_in(dyes, lot) > most[at]]
    return ("mixing", row_to(ahead, dyes)) if len(over) == 0 else ("lot", over[0])


def leads_to(ahead, numbers, dyes):
    """Whether any value is the row of a mixing by which the ends have these dyes."""
    return is_mixing(ahead, numbers) and dyes == tuple([dye_of(ahead, numbers, end) for end in ahead.ends])


def shows_can_stand(yard, moment, dyes, value):
    """Whether any value is right as what can_stand tells."""
    ahead = yard_ahead(yard, moment)
    check_dyes(ahead, dyes)
    if not isinstance(value, tuple) or len(value) != 2:
        return False
    word, told = value
    whole = dyed_in(ahead)
    if word == "mixing":
        return leads_to(ahead, told, dyes)
    if word == "all":
        return is_integer(told) and told == whole != sum(dyes)
    if word != "lot" or not are_numbers(told, len(dyes)):
        return False
    return sum(dyes) == whole and dye_in(dyes, told) > most_at(yard, moment, told)


def standings(yard, moment):
    """All dyes that can stand at this moment, ascending."""
    ahead = yard_ahead(yard, moment)
    if moment == 0:
        return ((0,) * len(ahead.ends),)
    flow = flow_of(ahead, ())
    fault_in(ahead, flow)
    found = rows_of(flow, end_stretches(ahead), MOST_MIXINGS + 1)
    if len(found) > MOST_MIXINGS:
        raise TooMany(MOST_MIXINGS)
    return found
