"""The forms of steps, spots and samples: as tuples, and as lines of texts."""

from dyedpours.values import integer_of, is_within

MOST_AMOUNT = 99
MOST_NUMBER = 9999


def is_step(value, vessels):
    """Whether any value is a tuple that tells a step with these vessels."""
    if not isinstance(value, tuple) or len(value) not in (3, 4):
        return False
    names = value[1:-1]
    if not all([name in vessels for name in names]) or not is_within(value[-1], 1, MOST_AMOUNT):
        return False
    if len(value) == 4:
        return value[0] == "pour" and names[0] != names[1]
    return value[0] in ("fill", "dye", "draw")


def vessel_taken(step):
    """The vessel from which this step takes, None if there is none."""
    return step[1] if step[0] in ("pour", "draw") else None


def vessel_brought(step):
    """The vessel into which this step brings, None if there is none."""
    if step[0] == "draw":
        return None
    return step[2] if step[0] == "pour" else step[1]


def moved_on(vessels, stand, step, much):
    """What is in each vessel behind this step, if so much stands ahead and the step moves so much of it."""
    behind = list(stand)
    gone, come = vessel_taken(step), vessel_brought(step)
    if gone is not None:
        behind[vessels.index(gone)] -= much
    if come is not None:
        behind[vessels.index(come)] += much
    return tuple(behind)


def is_spot(value, vessels, many):
    """Whether any value is a spot of a yard with these vessels and so many steps."""
    if not isinstance(value, tuple):
        return False
    if len(value) == 2:
        return value[0] == "by" and is_within(value[1], 0, many - 1)
    if len(value) == 3:
        return value[0] == "in" and value[1] in vessels and is_within(value[2], 1, many)
    return False


def is_sample(value, vessels, many):
    """Whether any value is a tuple that tells a sample of such a yard."""
    if not isinstance(value, tuple) or len(value) != 3 or value[0] not in ("is", "least", "most"):
        return False
    return is_within(value[1], 0, MOST_NUMBER) and is_spot(value[2], vessels, many)


def step_in(line):
    """What a line tells if it has the form of a step; is_step tells whether it has."""
    words = line.split(" ")
    return tuple(words[:-1]) + (integer_of(words[-1]),)


def sample_in(line):
    """What a line tells if it has the form of a sample; is_sample tells whether it has."""
    words = line.split(" ")
    if len(words) < 3:
        return None
    return (words[0], integer_of(words[1]), tuple(words[2:-1]) + (integer_of(words[-1]),))


def step_line(step):
    """The line of a step."""
    return " ".join([str(part) for part in step])


def sample_line(sample):
    """The line of a sample."""
    word, number, spot = sample
    return " ".join([word, str(number)] + [str(part) for part in spot])
