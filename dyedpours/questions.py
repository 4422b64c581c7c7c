"""Questions, whether a spot has so much dye at least, and what answers leave."""

from dyedpours.errors import BadAnswers, BadQuestion
from dyedpours.forms import is_spot
from dyedpours.lots import check_some, fitting, highest, lowest, ranges, shows_fitting
from dyedpours.mixings import check_mixing, dye_of, is_fitting
from dyedpours.moves import all_spots, check_spot
from dyedpours.sure import row_with
from dyedpours.values import is_within

MOST_ANSWERS = 8


def is_question(yard, value):
    """Whether any value is a question of the yard."""
    if not isinstance(value, tuple) or len(value) != 2 or not is_spot(value[0], yard.vessels, len(yard)):
        return False
    return is_within(value[1], 1, yard.amount(value[0]))


def check_question(yard, question):
    """BadQuestion unless question is one of the yard."""
    if not is_question(yard, question):
        raise BadQuestion(question)


def is_answer(yard, value):
    """Whether any value is a question of the yard and a bool."""
    if not isinstance(value, tuple) or len(value) != 2:
        return False
    return is_question(yard, value[0]) and isinstance(value[1], bool)


def check_answers(yard, answers):
    """BadAnswers unless answers are a tuple of none to eight questions, none twice, each with a bool."""
    if not isinstance(answers, tuple) or len(answers) > MOST_ANSWERS:
        raise BadAnswers(answers)
    if not all([is_answer(yard, value) for value in answers]):
        raise BadAnswers(answers)
    if len(set([question for question, _ in answers])) < len(answers):
        raise BadAnswers(answers)


def answer_by(yard, row, question):
    """What this mixing answers to this question."""
    spot, number = question
    return dye_of(yard, row, spot) >= number


def answer(yard, row, question):
    """What this mixing, whether it fits or not, answers to this question."""
    check_mixing(yard, row)
    check_question(yard, question)
    return answer_by(yard, row, question)


def sample_of(question, word):
    """The sample that just the mixings keep that answer so."""
    spot, number = question
    return ("least", number, spot) if word else ("most", number - 1, spot)


def answered(yard, answers):
    """A Yard of all mixings that fit and answer so; it has more samples than its text tells, so none gets to see it."""
    told = yard.bare()
    told.samples = yard.samples + tuple([sample_of(question, word) for question, word in answers])
    return told


def known(yard, question):
    """What all mixings that fit answer to this question; None if not all answer alike."""
    check_some(yard)
    check_question(yard, question)
    spot, number = question
    if lowest(yard, spot)[0] >= number:
        return True
    return False if highest(yard, spot)[0] < number else None


def left_by(yard, answers):
    """Any mixing that fits and answers so, or what shows that none does."""
    check_answers(yard, answers)
    return fitting(answered(yard, answers))


def shows_left_by(yard, answers, value):
    """Whether any value is right as what left_by tells."""
    check_answers(yard, answers)
    return shows_fitting(answered(yard, answers), value)


def check_told(yard, spot, question):
    """NoMixing unless some mixing fits; BadSpot and BadQuestion for what is no spot, and no question."""
    check_some(yard)
    check_spot(yard, spot)
    check_question(yard, question)


def both_ways(yard, question):
    """The yards of all mixings that fit and answer True, and of those that answer False."""
    return (answered(yard, ((question, True),)), answered(yard, ((question, False),)))


def tells(yard, spot, question):
    """Whether what a spot has tells the answer to this question; if not, two mixings that show it."""
    check_told(yard, spot, question)
    if known(yard, question) is not None:
        return ("tells",)
    yes, no = both_ways(yard, question)
    # What a spot can have by mixings of one answer follows one another without a gap.
    shared = max(lowest(yes, spot)[0], lowest(no, spot)[0])
    if shared > min(highest(yes, spot)[0], highest(no, spot)[0]):
        return ("tells",)
    return ("open", row_with(yes, spot, shared), row_with(no, spot, shared))


def shows_tells(yard, spot, question, value):
    """Whether any value is right as what tells tells."""
    check_told(yard, spot, question)
    if not isinstance(value, tuple) or len(value) not in (1, 3):
        return False
    if len(value) == 1:
        return value[0] == "tells" and tells(yard, spot, question) == ("tells",)
    rows = value[1:]
    if value[0] != "open" or not all([is_fitting(yard, row) for row in rows]):
        return False
    if dye_of(yard, rows[0], spot) != dye_of(yard, rows[1], spot):
        return False
    return answer_by(yard, rows[0], question) and not answer_by(yard, rows[1], question)


def tellers(yard, question):
    """All spots of which what they have tells the answer to this question."""
    if known(yard, question) is not None:
        return all_spots(yard)
    yes, no = both_ways(yard, question)
    ways = list(zip(all_spots(yard), ranges(yes), ranges(no)))
    return tuple([spot for spot, one, other in ways if max(one[0], other[0]) > min(one[1], other[1])])
