"""Checks of plain values, and integers as words tell them."""

LETTERS = "abcdefghijklmnopqrstuvwxyz"
DIGITS = "0123456789"
LONGEST_NAME = 8


def is_integer(value):
    """Whether any value is an int that is not a bool."""
    return isinstance(value, int) and not isinstance(value, bool)


def is_within(value, low, high):
    """Whether any value is an integer from low to high."""
    return is_integer(value) and low <= value <= high


def is_name(value):
    """Whether any value is a string of 1 to 8 letters a to z."""
    if not isinstance(value, str) or not 1 <= len(value) <= LONGEST_NAME:
        return False
    return all([sign in LETTERS for sign in value])


def are_integers(value, many):
    """Whether any value is a tuple of so many integers."""
    return isinstance(value, tuple) and len(value) == many and all([is_integer(part) for part in value])


def rises(row):
    """Whether each of these values, which can be sorted, is greater than the one ahead of it."""
    return all([row[at] < row[at + 1] for at in range(len(row) - 1)])


def are_numbers(value, many):
    """Whether any value is an ascending tuple of numbers of so many things."""
    if not isinstance(value, tuple) or not all([is_within(part, 0, many - 1) for part in value]):
        return False
    return rises(value)


def tuples_of(many):
    """All ascending tuples of numbers of so many things, in sequence by how many they have, then as tuples."""
    found = [()]
    for number in range(many):
        found = found + [row + (number,) for row in found]
    return [row for _, row in sorted([(len(row), row) for row in found])]


def integer_of(word):
    """The integer that Python writes as this word; None if there is none."""
    digits = word[1:] if word.startswith("-") else word
    if digits == "" or not all([sign in DIGITS for sign in digits]):
        return None
    number = int(word)
    return number if str(number) == word else None
