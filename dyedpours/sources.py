"""Whose grain is where; samples are left aside."""

from dyedpours.cuts import leaves, reaches
from dyedpours.errors import BadMarks, NoSource
from dyedpours.forms import is_spot
from dyedpours.lots import greatest, least
from dyedpours.moves import check_end
from dyedpours.tables import table
from dyedpours.values import are_numbers, is_integer
from dyedpours.yards import yard_of


def sources_in(yard):
    """The numbers of all sources, ascending."""
    return tuple([number for number, step in enumerate(yard.steps) if step[0] in ("fill", "dye")])


def check_marks(yard, marks):
    """BadMarks unless marks is an ascending tuple of numbers of sources."""
    known = sources_in(yard)
    if not are_numbers(marks, len(yard)) or not all([number in known for number in marks]):
        raise BadMarks(marks)


def check_source(yard, number):
    """NoSource unless number is that of a source."""
    if not is_integer(number) or number not in sources_in(yard):
        raise NoSource(number)


def marked(yard, marks):
    """The Yard, without samples, in which of all sources just these are dye."""
    steps = list(yard.steps)
    for number in sources_in(yard):
        steps[number] = ("dye" if number in marks else "fill",) + steps[number][1:]
    return yard_of(yard.vessels, steps, ())


def washed(yard, marks):
    """The Yard, without samples, in which just these sources are dye, and all others fill."""
    check_marks(yard, marks)
    return marked(yard, marks)


def alone(yard, number):
    """The Yard, without samples, in which just this source is dye."""
    check_source(yard, number)
    return marked(yard, (number,))


def share(yard, marks, lot):
    """The least and the most of the grain of these sources that the ends of this lot can have together."""
    clear = washed(yard, marks)
    return (least(clear, lot)[0], greatest(clear, lot)[0])


def most_of(yard, number):
    """How much of this source's grain each end can have at the most."""
    # Behind the lot of no ends the table has those of one end each, in sequence.
    return table(alone(yard, number), len(yard))[1:len(yard.ends) + 1]


def sources(yard, number):
    """The numbers of all sources of which this end can have some grain, ascending."""
    check_end(yard, number)
    return tuple([source for source in sources_in(yard) if most_of(yard, source)[number] > 0])


def reached(yard, number):
    """The numbers of all ends that can have some grain of this source, ascending."""
    return tuple([end for end, most in enumerate(most_of(yard, number)) if most > 0])


def pairs_of(yard):
    """For each source, in sequence, how much of its grain each end can have at the most."""
    return tuple([most_of(yard, number) for number in sources_in(yard)])


def check_way(yard, number, end):
    """NoSource unless number is that of a source, NoEnd unless end is that of an end."""
    check_source(yard, number)
    check_end(yard, end)


def leads(yard, spot, its):
    """Whether the first one of these spots reaches the place that the second one leaves."""
    place = reaches(yard, spot)
    return place is not None and place == leaves(yard, its)


def spots_in_time(yard):
    """All spots, each behind all from which grain comes into it."""
    found = []
    for step in range(len(yard)):
        found.append(("by", step))
        found.extend([("in", vessel, step + 1) for vessel in yard.vessels])
    return found


def led(yard, number, end):
    """Spots that lead grain of this source to this end, one behind the other; None if none do."""
    check_way(yard, number, end)
    ways = {("by", number): (("by", number),)}
    for spot in spots_in_time(yard):
        before = [its for its in ways if leads(yard, its, spot)] if yard.amount(spot) > 0 else []
        if len(before) > 0:
            ways[spot] = ways[before[0]] + (spot,)
    return ways.get(yard.ends[end])


def shows_led(yard, number, end, value):
    """Whether any value is right as what led tells."""
    check_way(yard, number, end)
    if value is None:
        return led(yard, number, end) is None
    if not isinstance(value, tuple) or len(value) == 0:
        return False
    if not all([is_spot(spot, yard.vessels, len(yard)) and yard.amount(spot) > 0 for spot in value]):
        return False
    if value[0] != ("by", number) or value[-1] != yard.ends[end]:
        return False
    return all([leads(yard, value[at], value[at + 1]) for at in range(len(value) - 1)])
