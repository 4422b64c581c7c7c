"""Steps that change places with their neighbours, are joined, or parted; samples are left aside."""

from dyedpours.errors import BadAmount, Fixed, Full, NoStep, NotParted, OtherVessels, Unlike
from dyedpours.forms import MOST_AMOUNT, is_step, vessel_brought, vessel_taken
from dyedpours.moves import check_step
from dyedpours.values import is_within
from dyedpours.yards import MOST_STEPS, Yard, yard_of

# So many exchanges turn fourteen steps about, the most that is ever needed.
MOST_EXCHANGES = 91


def feeds(step, its):
    """Whether the first one of these steps brings into a vessel from which the second one takes."""
    return vessel_brought(step) is not None and vessel_brought(step) == vessel_taken(its)


def apart(step, its):
    """Whether these steps may be exchanged as neighbours."""
    return not feeds(step, its) and not feeds(its, step)


def check_pair(yard, number):
    """NoStep unless number is that of a step with a next one."""
    if not is_within(number, 0, len(yard) - 2):
        raise NoStep(number)


def may_exchange(yard, number):
    """Whether the step with this number and the next one may be exchanged."""
    check_pair(yard, number)
    return apart(yard.steps[number], yard.steps[number + 1])


def swapped(steps, number):
    """These steps, with the one of this number and the next one in each other's place."""
    return steps[:number] + (steps[number + 1], steps[number]) + steps[number + 2:]


def exchanged(yard, number):
    """The Yard, without samples, in which this step and the next one are exchanged."""
    if not may_exchange(yard, number):
        raise Fixed(number)
    return yard_of(yard.vessels, swapped(yard.steps, number), ())


def comes_first(steps, place):
    """Whether exchanges of neighbours can bring the step at this place ahead of all others."""
    return all([apart(ahead, steps[place]) for ahead in steps[:place]])


def normal(yard):
    """The Yard, without samples, of the same steps in their least sequence."""
    left, steps = yard.steps, ()
    while len(left) > 0:
        least, at = min([(left[place], place) for place in range(len(left)) if comes_first(left, place)])
        steps = steps + (least,)
        left = left[:at] + left[at + 1:]
    return yard_of(yard.vessels, steps, ())


def ways_to(steps, goal):
    """The numbers of steps whose exchanges lead from steps to goal, one after the other; None if none do."""
    if len(steps) != len(goal):
        return None
    numbers = []
    for at, step in enumerate(goal):
        left = steps[at:]
        if step not in left or not comes_first(left, left.index(step)):
            return None
        for number in range(at + left.index(step) - 1, at - 1, -1):
            numbers.append(number)
            steps = swapped(steps, number)
    return tuple(numbers)


def told_apart(one, other, step, its):
    """Whether these two steps show that the yards have not the same steps."""
    if step != its and apart(step, its):
        return False
    pair = (step, its)
    return [part for part in one.steps if part in pair] != [part for part in other.steps if part in pair]


def check_vessels(one, other):
    """OtherVessels unless other is a Yard with the same vessels."""
    if not isinstance(other, Yard) or one.vessels != other.vessels:
        raise OtherVessels(other)


def same_steps(one, other):
    """The exchanges that lead from one to other, or two steps that show that none do."""
    check_vessels(one, other)
    numbers = ways_to(one.steps, other.steps)
    if numbers is not None:
        return ("same", numbers)
    steps = one.steps + other.steps
    # Of yards without the same steps there is always such a pair among their steps.
    pairs = [(step, its) for step in steps for its in steps if told_apart(one, other, step, its)]
    return ("unlike", pairs[0][0], pairs[0][1])


def lead_over(one, other, numbers):
    """Whether any value is a tuple of numbers whose exchanges lead from one to other."""
    if not isinstance(numbers, tuple) or len(numbers) > MOST_EXCHANGES:
        return False
    steps = one.steps
    for number in numbers:
        if not is_within(number, 0, len(steps) - 2) or not apart(steps[number], steps[number + 1]):
            return False
        steps = swapped(steps, number)
    return steps == other.steps


def shows_same_steps(one, other, value):
    """Whether any value is right as what same_steps tells."""
    check_vessels(one, other)
    if not isinstance(value, tuple):
        return False
    if len(value) == 2:
        return value[0] == "same" and lead_over(one, other, value[1])
    if len(value) != 3 or value[0] != "unlike" or not all([is_step(part, one.vessels) for part in value[1:]]):
        return False
    return told_apart(one, other, value[1], value[2])


def joined(yard, number):
    """The Yard, without samples, in which this step and the next one are one step."""
    check_pair(yard, number)
    step, its = yard.steps[number], yard.steps[number + 1]
    both = step[-1] + its[-1]
    if step[:-1] != its[:-1] or step[0] == "draw" or both > MOST_AMOUNT:
        raise Unlike(number)
    return yard_of(yard.vessels, yard.steps[:number] + (step[:-1] + (both,),) + yard.steps[number + 2:], ())


def parted(yard, number, amount):
    """The Yard, without samples, in which two steps, one of this amount, stand in the place of this step."""
    check_step(yard, number)
    step = yard.steps[number]
    if not is_within(amount, 1, step[-1] - 1):
        raise BadAmount(amount)
    if step[0] == "draw":
        raise NotParted(number)
    if len(yard) >= MOST_STEPS:
        raise Full(MOST_STEPS)
    parts = (step[:-1] + (amount,), step[:-1] + (step[-1] - amount,))
    return yard_of(yard.vessels, yard.steps[:number] + parts + yard.steps[number + 1:], ())
