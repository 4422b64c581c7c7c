"""Yards: vessels, what is done with them, and what is known by samples."""

from dyedpours.errors import BadMoment, BadSample, BadSpot, BadStep, BadYard, Full, NoSample, NoVessel, Told
from dyedpours.forms import is_sample, is_spot, is_step, moved_on, sample_in, sample_line, step_in, step_line
from dyedpours.values import is_name, is_within

MOST_VESSELS = 6
MOST_STEPS = 14
MOST_SAMPLES = 6
MOST_ENDS = 9


def are_vessels(value):
    """Whether any value is a tuple of one to six unlike names."""
    if not isinstance(value, tuple) or not 1 <= len(value) <= MOST_VESSELS:
        return False
    return all([is_name(name) for name in value]) and len(set(value)) == len(value)


def vessels_in(line):
    """The vessels that this line tells; None if it is no line of vessels."""
    words = line.split(" ")
    names = tuple(words[1:])
    return names if words[0] == "vessels" and are_vessels(names) else None


def drawn(steps):
    """The numbers of the draws among these steps."""
    return [number for number, step in enumerate(steps) if step[0] == "draw"]


def next_level(vessels, steps, level, step):
    """What stands in each vessel behind any value as one step more; None if it is no step that can stand there."""
    if not is_step(step, vessels):
        return None
    if step[0] == "draw" and len(vessels) + len(drawn(steps)) >= MOST_ENDS:
        return None
    behind = moved_on(vessels, level, step, step[-1])
    return behind if min(behind) >= 0 else None


def stand_so(vessels, steps):
    """Whether these can be all steps of a yard, one behind the other."""
    level = (0,) * len(vessels)
    for number, step in enumerate(steps):
        level = next_level(vessels, steps[:number], level, step)
        if level is None:
            return False
    return len(steps) <= MOST_STEPS


def read_yard(text):
    """The vessels, steps, samples and levels at all moments that this text tells."""
    if not isinstance(text, str):
        raise BadYard(0)
    lines = text.split("\n")
    vessels = vessels_in(lines[0])
    if vessels is None:
        raise BadYard(1)
    steps, samples, levels = [], [], [(0,) * len(vessels)]
    for number, line in enumerate(lines[1:], start=2):
        step, sample = step_in(line), sample_in(line)
        level = next_level(vessels, steps, levels[-1], step)
        if level is not None and len(steps) < MOST_STEPS and samples == []:
            steps.append(step)
            levels.append(level)
        elif is_sample(sample, vessels, len(steps)) and len(samples) < MOST_SAMPLES and sample not in samples:
            samples.append(sample)
        else:
            raise BadYard(number)
    return (vessels, tuple(steps), tuple(samples), tuple(levels))


def vessels_line(vessels):
    """The line of these vessels."""
    return " ".join(["vessels"] + list(vessels))


def yard_of(vessels, steps, samples):
    """The Yard that these tell."""
    lines = [vessels_line(vessels)]
    lines.extend([step_line(step) for step in steps])
    lines.extend([sample_line(sample) for sample in samples])
    return Yard("\n".join(lines))


class Yard:
    """Vessels, all empty at first, the steps done one behind the other, and the samples."""

    def __init__(self, text):
        vessels, steps, samples, levels = read_yard(text)
        self.text = text
        self.vessels = vessels
        self.steps = steps
        self.samples = samples
        self.levels = levels
        standing = [("in", vessel, len(steps)) for vessel in vessels]
        self.ends = tuple(standing + [("by", number) for number in drawn(steps)])

    def __eq__(self, other):
        return isinstance(other, Yard) and self.text == other.text

    def __len__(self):
        return len(self.steps)

    def __contains__(self, x):
        return x in self.vessels

    def amount(self, spot):
        """How much grain this spot is."""
        if not is_spot(spot, self.vessels, len(self.steps)):
            raise BadSpot(spot)
        if spot[0] == "by":
            return self.steps[spot[1]][-1]
        return self.level(spot[1], spot[2])

    def level(self, vessel, moment):
        """How much stands in this vessel at this moment."""
        if vessel not in self:
            raise NoVessel(vessel)
        if not is_within(moment, 0, len(self.steps)):
            raise BadMoment(moment)
        return self.levels[moment][self.vessels.index(vessel)]

    def with_step(self, step):
        """The Yard with this step behind all others."""
        if next_level(self.vessels, self.steps, self.levels[-1], step) is None:
            raise BadStep(step)
        if len(self.steps) >= MOST_STEPS:
            raise Full(MOST_STEPS)
        return yard_of(self.vessels, self.steps + (step,), self.samples)

    def with_sample(self, sample):
        """The Yard with this sample behind all others."""
        if not is_sample(sample, self.vessels, len(self.steps)):
            raise BadSample(sample)
        if sample in self.samples:
            raise Told(self.samples.index(sample))
        if len(self.samples) >= MOST_SAMPLES:
            raise Full(MOST_SAMPLES)
        return yard_of(self.vessels, self.steps, self.samples + (sample,))

    def without_sample(self, number):
        """The Yard without the sample of this number."""
        if not is_within(number, 0, len(self.samples) - 1):
            raise NoSample(number)
        return yard_of(self.vessels, self.steps, self.samples[:number] + self.samples[number + 1:])

    def bare(self):
        """The Yard without samples."""
        return yard_of(self.vessels, self.steps, ())
