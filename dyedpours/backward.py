"""Yards turned about in time; samples are left aside."""

from dyedpours.cuts import check_lot
from dyedpours.errors import Full, Great
from dyedpours.forms import MOST_AMOUNT, vessel_brought, vessel_taken
from dyedpours.mixings import all_stands, check_mixing
from dyedpours.sources import check_source, sources_in, washed
from dyedpours.yards import MOST_ENDS, MOST_STEPS, yard_of


def left_standing(yard):
    """The places of all vessels in which something stands at last."""
    return [place for place, level in enumerate(yard.levels[-1]) if level > 0]


def source_word(yard, lot, end):
    """What brings this end back: dye if it is of the lot, fill otherwise."""
    return "dye" if yard.ends.index(end) in lot else "fill"


def turned_step(yard, lot, number):
    """The step of backward's Yard that undoes the one with this number."""
    step = yard.steps[number]
    gone, come = vessel_taken(step), vessel_brought(step)
    if come is None:
        return (source_word(yard, lot, ("by", number)), gone, step[-1])
    return ("draw", come, step[-1]) if gone is None else ("pour", come, gone, step[-1])


def check_turned(yard, lot):
    """The errors of backward."""
    check_lot(yard, lot)
    if max(yard.levels[-1]) > MOST_AMOUNT:
        raise Great(MOST_AMOUNT)
    if len(yard.vessels) + len(sources_in(yard)) > MOST_ENDS:
        raise Full(MOST_ENDS)
    if len(left_standing(yard)) + len(yard) > MOST_STEPS:
        raise Full(MOST_STEPS)


def backward(yard, lot):
    """The Yard that goes from the ends back to the sources, the ends of this lot dyed."""
    check_turned(yard, lot)
    steps = [
        ("dye" if place in lot else "fill", yard.vessels[place], yard.levels[-1][place])
        for place in left_standing(yard)
    ]
    steps.extend([turned_step(yard, lot, number) for number in reversed(range(len(yard)))])
    return yard_of(yard.vessels, steps, ())


def turned_end(yard, number):
    """The number of the end of backward's yards that is the glass of this source."""
    check_source(yard, number)
    behind = [source for source in sources_in(yard) if source > number]
    return len(yard.vessels) + len(behind)


def turned_mixing(yard, lot, marks, row):
    """How much of what each step of backward's Yard moves is grain of these sources by this row."""
    check_turned(yard, lot)
    check_mixing(washed(yard, marks), row)
    stand = all_stands(yard, row)[-1]
    return tuple([stand[place] for place in left_standing(yard)]) + row[::-1]
