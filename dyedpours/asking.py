"""Which questions to ask, one behind the other, until it is known what is to be known."""

from dyedpours.errors import BadQuestions
from dyedpours.lots import check_some, fitting
from dyedpours.mixings import is_fitting
from dyedpours.questions import answer_by, answered, check_question, is_question
from dyedpours.values import is_integer, is_within

MOST_QUESTIONS = 4


def check_asked(yard, questions, aim):
    """NoMixing unless some mixing fits; BadQuestions, and BadQuestion for what is no aim."""
    check_some(yard)
    if not isinstance(questions, tuple) or len(questions) > MOST_QUESTIONS:
        raise BadQuestions(questions)
    if not all([is_question(yard, value) for value in questions]) or len(set(questions)) < len(questions):
        raise BadQuestions(questions)
    check_question(yard, aim)


def all_words(many):
    """All tuples of so many answers."""
    found = [()]
    for _ in range(many):
        found = [words + (word,) for words in found for word in (True, False)]
    return found


def row_for(yard, answers):
    """Any mixing that fits and answers so; None if there is none."""
    word, told = fitting(answered(yard, answers))
    return told if word == "mixing" else None


def rows_for(yard, questions, aim):
    """By what is answered to all the questions: a mixing that answers True to aim, and one that answers False."""
    rows = {}
    for words in all_words(len(questions)):
        answers = list(zip(questions, words))
        rows[words] = tuple([row_for(yard, answers + [(aim, word)]) for word in (True, False)])
    return rows


def is_open(pair):
    """Whether there are both a mixing that answers True to aim, and one that answers False."""
    return pair[0] is not None and pair[1] is not None


def led_to(rows, path):
    """What mixings answer to aim that gave these answers, each (number of a question, word)."""
    pairs = [rows[words] for words in rows if all([words[at] == word for at, word in path])]
    return [word for at, word in enumerate((True, False)) if any([pair[at] is not None for pair in pairs])]


def least_tree(rows, path, many):
    """How many more of so many questions it needs behind these answers, and a tree that needs so many."""
    words = led_to(rows, path)
    if len(words) == 0:
        return (0, None)
    if len(words) == 1:
        return (0, ("is", words[0]))
    asked = [at for at, _ in path]
    found = None
    for number in range(many):
        if number not in asked:
            yes = least_tree(rows, path + ((number, True),), many)
            no = least_tree(rows, path + ((number, False),), many)
            need = 1 + max(yes[0], no[0])
            if found is None or need < found[0]:
                found = (need, ("ask", number, yes[1], no[1]))
    return found


def asks(yard, questions, aim):
    """The least number of questions by which aim comes to be known, with a tree; or two mixings that none tells."""
    check_asked(yard, questions, aim)
    rows = rows_for(yard, questions, aim)
    left = [rows[words] for words in rows if is_open(rows[words])]
    if len(left) > 0:
        return ("open",) + left[0]
    return ("plan",) + least_tree(rows, (), len(questions))


def is_tree(rows, path, many, left, value):
    """Whether any value is a tree behind these answers that needs at most so many (left) of so many questions."""
    words = led_to(rows, path)
    if len(words) == 0 or value is None:
        return len(words) == 0 and value is None
    if not isinstance(value, tuple) or len(value) not in (2, 4):
        return False
    if len(value) == 2:
        return value[0] == "is" and isinstance(value[1], bool) and words == [value[1]]
    number = value[1]
    if value[0] != "ask" or left == 0 or not is_within(number, 0, many - 1):
        return False
    if not is_tree(rows, path + ((number, True),), many, left - 1, value[2]):
        return False
    return is_tree(rows, path + ((number, False),), many, left - 1, value[3])


def leaves_open(yard, questions, aim, row, other):
    """Whether any two values are mixings that fit, of which the questions tell nothing, but True and False to aim."""
    if not is_fitting(yard, row) or not is_fitting(yard, other):
        return False
    if not answer_by(yard, row, aim) or answer_by(yard, other, aim):
        return False
    return all([answer_by(yard, row, question) == answer_by(yard, other, question) for question in questions])


def shows_asks(yard, questions, aim, value):
    """Whether any value is right as what asks tells."""
    check_asked(yard, questions, aim)
    if not isinstance(value, tuple) or len(value) != 3:
        return False
    if value[0] == "open":
        return leaves_open(yard, questions, aim, value[1], value[2])
    rows = rows_for(yard, questions, aim)
    if value[0] != "plan" or not is_integer(value[1]) or any([is_open(rows[words]) for words in rows]):
        return False
    number, _ = least_tree(rows, (), len(questions))
    return value[1] == number and is_tree(rows, (), len(questions), number, value[2])


def is_wanted(rows, number):
    """Whether asks of all questions but this one tells open."""
    paths = [[(at, word) for at, word in enumerate(words) if at != number] for words in rows]
    return any([len(led_to(rows, path)) == 2 for path in paths])


def wanted(yard, questions, aim):
    """The numbers of all questions without each of which, by itself, asks tells open; None if it does so with all."""
    check_asked(yard, questions, aim)
    rows = rows_for(yard, questions, aim)
    if any([is_open(rows[words]) for words in rows]):
        return None
    return tuple([number for number in range(len(questions)) if is_wanted(rows, number)])
