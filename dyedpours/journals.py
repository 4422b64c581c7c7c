"""Journals: the deeds of a wharf as lines."""

from dyedpours.errors import BadJournal, PourError
from dyedpours.forms import sample_line, step_line
from dyedpours.values import integer_of
from dyedpours.wharves import Wharf, is_told
from dyedpours.yards import vessels_in, vessels_line


def deed_line(deed):
    """The line of a deed."""
    return "sample " + sample_line(deed) if is_told(deed) else step_line(deed)


def journal(wharf):
    """The vessels, and all deeds that stand, line by line."""
    return "\n".join([vessels_line(wharf.vessels)] + [deed_line(deed) for deed in wharf.deeds])


def words_in(line):
    """The words of a line, parted by one blank; none if one of them has no sign."""
    words = line.split(" ")
    return [] if "" in words else words


def spot_in(words):
    """What these words tell if they have the form of a spot, its vessel any word; None if they have not."""
    if len(words) not in (2, 3) or words[0] != ("by" if len(words) == 2 else "in"):
        return None
    number = integer_of(words[-1])
    return None if number is None else tuple(words[:-1]) + (number,)


def step_told(words):
    """What these words tell if they have the form of a step, its vessels any words; None if they have not."""
    if len(words) not in (3, 4) or words[0] not in (("fill", "dye", "draw") if len(words) == 3 else ("pour",)):
        return None
    amount = integer_of(words[-1])
    return None if amount is None else tuple(words[:-1]) + (amount,)


def sample_told(words):
    """What these words tell if they have the form of a sample, its vessel any word; None if they have not."""
    if len(words) < 2 or words[0] not in ("is", "least", "most"):
        return None
    number, spot = integer_of(words[1]), spot_in(words[2:])
    return None if number is None or spot is None else (words[0], number, spot)


def deed_in(line):
    """The deed that a line tells, its vessels any words; None if it has not the form of one."""
    words = words_in(line)
    if words[:1] == ["sample"]:
        return sample_told(words[1:])
    return step_told(words)


def do_deed(wharf, deed):
    """Do this deed; what the wharf returns is told."""
    if is_told(deed):
        return wharf.sample(deed[0], deed[1], deed[2])
    if deed[0] == "pour":
        return wharf.pour(deed[1], deed[2], deed[3])
    if deed[0] == "draw":
        return wharf.draw(deed[1], deed[2])
    return wharf.fill(deed[1], deed[2]) if deed[0] == "fill" else wharf.dye(deed[1], deed[2])


def do_line(wharf, number, line):
    """Do what the line of this number tells; BadJournal if it tells no deed, or one that is refused."""
    deed = deed_in(line)
    if deed is None:
        raise BadJournal(number)
    try:
        do_deed(wharf, deed)
    except PourError:
        raise BadJournal(number) from None


def read_journal(text):
    """A Wharf on which was done what this journal tells."""
    if not isinstance(text, str):
        raise BadJournal(0)
    lines = text.split("\n")
    vessels = vessels_in(lines[0])
    if vessels is None:
        raise BadJournal(1)
    wharf = Wharf(vessels)
    for number, line in enumerate(lines[1:], start=2):
        do_line(wharf, number, line)
    return wharf
