"""Section 9: grain by grain."""

import functools
import unittest

from dyedpours.errors import NotMixing, TooMany
from dyedpours.grains import between, longest, path, shows_path
from dyedpours.lots import greatest, least
from dyedpours.mixings import eager, shy
from tests.helpers import EMPTY, LARGE, NONE, ODD, TWO, YARD, fitting_ones, gives, raises, some_yards
from tests.test_every import THREE_HUNDRED
from tests.test_mixings import NO_MIXINGS

LOW, MIDDLE, HIGH = (0, 4, 0, 0, 2), (0, 4, 1, 0, 2), (0, 4, 2, 0, 2)


def lies(row, one, other):
    """Whether a row lies between two others."""
    return all(min(its) <= number <= max(its) for number, its in zip(row, zip(one, other)))


def near(one, other):
    """Whether two rows are near one another."""
    return all(abs(its - their) <= 1 for its, their in zip(one, other))


def is_path(rows, one, other, told):
    """Whether these are a path, tried by what the document says of it."""
    return (
        len(told) > 0 and told[0] == one and told[-1] == other and len(set(told)) == len(told)
        and all(row in rows for row in told)
        and all(near(*pair) and lies(pair[1], pair[0], other) for pair in zip(told, told[1:]))
    )


def longest_of(rows, one, other):
    """How many mixings the longest path has."""
    @functools.lru_cache(None)
    def most(row):
        on = [most(its) for its in rows if its != row and near(row, its) and lies(its, row, other)]
        return 1 if row == other else 1 + max(on)
    return most(one)


def some_pairs(seed, many):
    """Small yards with all their mixings that fit, and some pairs of these."""
    for yard in some_yards(seed, many):
        rows = fitting_ones(yard)
        if rows:
            ends = (rows[0], rows[-1], rows[len(rows) // 2], rows[len(rows) // 3])
            yield yard, rows, [(one, other) for one in ends for other in ends]


class Between(unittest.TestCase):
    def test_the_example(self):
        gives(self, False, between, YARD, LOW, MIDDLE)
        gives(self, True, between, YARD, LOW, HIGH)

    def test_small_yards(self):
        for yard, rows, pairs in some_pairs(11, 120):
            for one, other in pairs:
                its = any(row not in (one, other) and lies(row, one, other) for row in rows)
                gives(self, its, between, yard=yard, one=one, other=other)

    def test_one_and_the_same(self):
        gives(self, False, between, YARD, LOW, LOW)
        gives(self, False, between, EMPTY, (), ())

    def test_what_fits_alone_counts(self):
        yard = YARD.with_sample(('is', 0, ('by', 2)))
        gives(self, False, between, yard, (0, 4, 0, 0, 2), (0, 4, 0, 0, 3))
        gives(self, True, between, LARGE, greatest(LARGE, (0, 1))[1], least(LARGE, (0, 1))[1])
        gives(self, True, between, LARGE.bare(), eager(LARGE), shy(LARGE))


class Path(unittest.TestCase):
    def test_the_example(self):
        gives(self, 2, lambda: len(path(YARD, LOW, (0, 4, 0, 0, 3))))
        gives(self, True, shows_path, YARD, LOW, HIGH, (LOW, MIDDLE, HIGH))

    def test_small_yards(self):
        for yard, rows, pairs in some_pairs(12, 120):
            for one, other in pairs:
                told = path(yard=yard, one=one, other=other)
                self.assertTrue(is_path(rows, one, other, told))
                gives(self, True, shows_path, yard=yard, one=one, other=other, value=told)

    def test_one_and_the_same(self):
        gives(self, (LOW,), path, YARD, LOW, LOW)
        gives(self, ((),), path, EMPTY, (), ())
        gives(self, True, shows_path, EMPTY, (), (), ((),))
        gives(self, False, shows_path, EMPTY, (), (), ())
        gives(self, False, shows_path, EMPTY, (), (), ((), ()))
        gives(self, False, shows_path, YARD, LOW, LOW, (LOW, MIDDLE, LOW))

    def test_large_yards(self):
        for yard, one, other in (
            (LARGE.bare(), eager(LARGE), shy(LARGE)), (LARGE.bare(), shy(LARGE), eager(LARGE)),
            (LARGE, greatest(LARGE, (0, 5, 6))[1], least(LARGE, (0, 5, 6))[1]),
        ):
            told = path(yard, one, other)
            gives(self, True, shows_path, yard, one, other, told)
            gives(self, told, path, yard, one, other)
            gives(self, len(told) == 2, shows_path, yard, one, other, (one, other))

    def test_shows_what_other_paths_are(self):
        for yard, rows, pairs in some_pairs(13, 40):
            for one, other in pairs:
                told = path(yard, one, other)
                for row in rows[:6]:
                    for value in (told[:1] + (row,) + told[1:], told[:-1] + (row,), (row,) + told, (one, row, other)):
                        gives(self, is_path(rows, one, other, value), shows_path, yard, one, other, value)

    def test_shows_nothing_else(self):
        for value in ODD + (
            (), (LOW,), (LOW, HIGH), (LOW, MIDDLE), (MIDDLE, HIGH), (HIGH, MIDDLE, LOW), [LOW, MIDDLE, HIGH],
            (LOW, list(MIDDLE), HIGH), (LOW, (0, 4, True, False, 2), HIGH), (LOW, LOW, MIDDLE, HIGH),
            (LOW, MIDDLE, HIGH, HIGH), (LOW, MIDDLE, LOW, MIDDLE, HIGH), (LOW, (0, 4, 0, 0, 3), MIDDLE, HIGH),
            (LOW, MIDDLE, HIGH, None), (LOW, (0, 4, 1, 0, 1), HIGH), (LOW, MIDDLE, HIGH[:4]), LOW,
        ):
            gives(self, False, shows_path, YARD, LOW, HIGH, value)

    def test_shows_no_mixing_that_does_not_fit(self):
        yard = YARD.with_sample(('is', 0, ('by', 3)))
        one, other = (0, 4, 1, 0, 3), (0, 4, 3, 0, 1)
        gives(self, True, shows_path, yard, one, other, (one, (0, 4, 2, 0, 2), other))
        gives(self, False, shows_path, yard, one, other, (one, (0, 4, 2, 1, 2), other))


class Longest(unittest.TestCase):
    def test_the_example(self):
        gives(self, 3, longest, YARD, LOW, HIGH)

    def test_small_yards(self):
        for yard, rows, pairs in some_pairs(14, 80):
            for one, other in pairs:
                inner = [row for row in rows if lies(row, one, other)]
                if len(inner) > 300:
                    raises(self, TooMany, 300, longest, yard, one, other)
                elif len(inner) < 80:
                    gives(self, longest_of(inner, one, other), longest, yard=yard, one=one, other=other)

    def test_how_many_lie_between(self):
        one, other = shy(THREE_HUNDRED), eager(THREE_HUNDRED)
        gives(self, 9 + 5 + 4 + 1, longest, THREE_HUNDRED, one, other)
        raises(self, TooMany, 300, longest, LARGE.bare(), shy(LARGE), eager(LARGE))
        gives(self, 1, longest, LARGE.bare(), shy(LARGE), shy(LARGE))
        gives(self, 1, longest, EMPTY, (), ())


class Wrong(unittest.TestCase):
    def test_wrong_rows(self):
        for call, more in ((between, ()), (path, ()), (longest, ()), (shows_path, (None,))):
            for value in NO_MIXINGS:
                raises(self, NotMixing, value, call, YARD, value, None, *more)
                raises(self, NotMixing, value, call, YARD, LOW, value, *more)
            fits, misfit = (0, 4, 2, 2, 0), (0, 4, 1, 1, 1)
            raises(self, NotMixing, misfit, call, TWO, misfit, fits, *more)
            raises(self, NotMixing, misfit, call, TWO, fits, misfit, *more)
            raises(self, NotMixing, fits, call, NONE, fits, None, *more)


if __name__ == '__main__':
    unittest.main()
