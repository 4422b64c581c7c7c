"""Plain values, which the other modules ask for."""

import unittest

from dyedpours.values import are_integers, are_numbers, integer_of, is_integer, is_name, is_within
from tests.helpers import ODD, gives


class Values(unittest.TestCase):
    def test_integers(self):
        for value in ODD:
            gives(self, type(value) is int, is_integer, value)
            gives(self, value == -1 and value is not True, is_within, value, -1, 5)
        gives(self, (True, True, False, False), lambda: tuple(is_within(value, 2, 3) for value in (2, 3, 1, 4)))

    def test_names(self):
        for value in ODD:
            gives(self, type(value) is str and value == 'by', is_name, value)
        gives(self, (True, True, False), lambda: tuple(is_name('z' * many) for many in (1, 8, 9)))

    def test_words(self):
        for word in ('0', '1', '10', '907', '-1', '-90', '999999999'):
            gives(self, int(word), integer_of, word)
        for word in ('', '-', '00', '01', '-0', '-01', '+1', ' 1', '1 ', '1_0', '1.0', 'x', '--1', '1-', '0x1', 'True'):
            gives(self, None, integer_of, word)

    def test_tuples(self):
        for value in ODD:
            gives(self, value == (), are_numbers, value, 3)
            gives(self, value == (), are_integers, value, 0)
            gives(self, False, are_integers, value, 1)
        gives(self, (True, False), lambda: tuple(are_numbers((0, 2), many) for many in (3, 2)))


if __name__ == '__main__':
    unittest.main()
