"""A wharf, at which things are poured and sampled, undone, and tried out."""

from dyedpours.errors import (
    BadAmount, BadVessels, Full, NoTrial, NothingToRedo, NothingToUndo, NoVessel, Same, TooLittle, Torn,
)
from dyedpours.forms import MOST_AMOUNT
from dyedpours.lots import fitting, highest, lowest
from dyedpours.values import is_within
from dyedpours.yards import MOST_ENDS, MOST_STEPS, are_vessels, yard_of


def is_told(deed):
    """Whether this deed is a sample; if not, it is a step."""
    return deed[0] in ("is", "least", "most")


def yard_after(vessels, deeds):
    """The Yard of the steps and the samples of these deeds."""
    steps = [deed for deed in deeds if not is_told(deed)]
    return yard_of(vessels, steps, [deed for deed in deeds if is_told(deed)])


def check_vessel(wharf, vessel):
    """NoVessel unless this is the name of a vessel of the wharf."""
    if vessel not in wharf:
        raise NoVessel(vessel)


def check_amount(amount):
    """BadAmount unless this is an amount."""
    if not is_within(amount, 1, MOST_AMOUNT):
        raise BadAmount(amount)


def check_level(wharf, vessel, amount):
    """TooLittle unless so much stands in this vessel."""
    level = wharf.yard.level(vessel, len(wharf))
    if level < amount:
        raise TooLittle(level)


def check_room(wharf):
    """Full if there are as many steps as may be."""
    if len(wharf) >= MOST_STEPS:
        raise Full(MOST_STEPS)


class Trial:
    """A block behind which its wharf is as it was ahead of it, unless it is kept and no error left it."""

    def __init__(self, wharf):
        self.wharf = wharf
        self.kept = None
        self.outer = None
        self.yard = None
        self.done = 0
        self.deeds = ()
        self.undone = ()

    def __enter__(self):
        wharf = self.wharf
        self.outer = wharf.innermost
        self.yard = wharf.yard
        self.done = wharf.done
        self.deeds = wharf.deeds
        self.undone = wharf.undone
        wharf.innermost = self
        return wharf

    def __exit__(self, kind, value, trace):
        wharf = self.wharf
        if kind is not None or self.kept is None:
            wharf.yard = self.yard
            wharf.done = self.done
            wharf.deeds = self.deeds
            wharf.undone = self.undone
        wharf.innermost = self.outer


class Wharf:
    """Vessels, and the deeds that stand, one behind the other."""

    def __init__(self, vessels):
        if not are_vessels(vessels):
            raise BadVessels(vessels)
        self.vessels = vessels
        self.innermost = None
        self.stand(deeds=(), undone=())

    def stand(self, deeds, undone):
        """Let just these deeds stand, and those be what can be done again, the last one first."""
        self.deeds = deeds
        self.undone = undone
        self.yard = yard_after(self.vessels, deeds)
        self.done = len(deeds)

    def add_deed(self, deed):
        """Do one deed more; nothing can be done again then."""
        self.stand(self.deeds + (deed,), ())

    def __eq__(self, other):
        return isinstance(other, Wharf) and self.vessels == other.vessels and self.deeds == other.deeds

    def __len__(self):
        return len(self.yard.steps)

    def __contains__(self, x):
        return x in self.vessels

    def most(self, spot):
        """The greatest dye of this spot by mixings that fit."""
        return highest(self.yard, spot)[0]

    def least(self, spot):
        """The least dye of this spot by mixings that fit."""
        return lowest(self.yard, spot)[0]

    def now(self, vessel):
        """The least and the greatest dye that stands in this vessel at last."""
        check_vessel(self, vessel)
        if len(self) == 0:
            return (0, 0)
        spot = ("in", vessel, len(self))
        return (self.least(spot), self.most(spot))

    def bring(self, word, vessel, amount):
        """Let so much come into this vessel, by a step with this word."""
        check_vessel(self, vessel)
        check_amount(amount)
        check_room(self)
        self.add_deed((word, vessel, amount))

    def fill(self, vessel, amount):
        """Fill so much clean grain into this vessel."""
        self.bring("fill", vessel, amount)

    def dye(self, vessel, amount):
        """Fill so much dyed grain into this vessel."""
        self.bring("dye", vessel, amount)

    def pour(self, one, other, amount):
        """Pour so much from one vessel into the other one."""
        check_vessel(self, one)
        check_vessel(self, other)
        if one == other:
            raise Same(one)
        check_amount(amount)
        check_level(self, one, amount)
        check_room(self)
        self.add_deed(("pour", one, other, amount))

    def draw(self, vessel, amount):
        """Draw so much from this vessel into a glass; the number of this end is told."""
        check_vessel(self, vessel)
        check_amount(amount)
        check_level(self, vessel, amount)
        number = len(self.yard.ends)
        if number >= MOST_ENDS:
            raise Full(MOST_ENDS)
        check_room(self)
        self.add_deed(("draw", vessel, amount))
        return number

    def sample(self, word, number, spot):
        """Tell a sample."""
        told = (word, number, spot)
        found = fitting(self.yard.with_sample(told))
        if found[0] != "mixing":
            raise Torn(found)
        self.add_deed(told)

    def undo(self):
        """Take the last deed back that stands."""
        if len(self.deeds) == 0:
            raise NothingToUndo(None)
        self.stand(self.deeds[:-1], self.undone + self.deeds[-1:])

    def redo(self):
        """Do the deed again that was taken back last."""
        if len(self.undone) == 0:
            raise NothingToRedo(None)
        self.stand(self.deeds + self.undone[-1:], self.undone[:-1])

    def trial(self):
        """A block, to be entered once, behind which the wharf is as it was when it was entered, unless it is kept."""
        return Trial(self)

    def keep(self):
        """Keep what is done in the innermost block."""
        block = self.innermost
        if block is None:
            raise NoTrial(None)
        block.kept = True

    def tried(self, look, *, keep=False):
        """What look returns, called with the wharf within a block of its own, which is kept if keep is True."""
        with self.trial():
            if keep is True:
                self.keep()
            return look(self)

    def copy(self):
        """An independent wharf, alike in all things, itself outside of all blocks."""
        twin = Wharf(self.vessels)
        twin.stand(self.deeds, self.undone)
        return twin
