"""Section 31: the errors."""

import unittest

from dyedpours import errors
from tests.helpers import ODD

NAMES = (
    'BadYard BadSpot NoVessel BadMoment BadStep Full BadSample Told NoSample NoStep NoEnd NoGlass Fixed OtherVessels '
    'Unlike BadAmount NotParted BadRow NotMixing TooMany BadCut BadLot NoMixing BadDyes BadWeights BadHeights BadSpots '
    'BadNumbers OtherSteps BadMarks NoSource Great BadMost BadPrices BadQuestion BadAnswers BadQuestions BadBlock '
    'BadMany BadOffers BadWishes BadChoice BadVessels Same TooLittle Torn NothingToUndo NothingToRedo NoTrial '
    'BadJournal BadLine'
).split()


class Errors(unittest.TestCase):
    def test_each_is_directly_below_pour_error(self):
        for name in NAMES:
            self.assertEqual(getattr(errors, name).__bases__, (errors.PourError,), name)
        self.assertEqual(errors.PourError.__bases__, (ValueError,))

    def test_there_are_no_others(self):
        found = {name for name, its in vars(errors).items() if isinstance(its, type)}
        self.assertEqual(found, set(NAMES) | {'PourError'})

    def test_each_keeps_any_value_itself(self):
        for name in NAMES + ['PourError']:
            for value in ODD + (len, object()):
                self.assertIs(getattr(errors, name)(value).value, value)

    def test_each_takes_just_one_argument(self):
        for name in NAMES + ['PourError']:
            for told in ((), (1, 2)):
                with self.assertRaises(TypeError):
                    getattr(errors, name)(*told)

    def test_they_are_caught_as_their_like(self):
        with self.assertRaises(ValueError):
            raise errors.Full(14)
        with self.assertRaises(errors.PourError):
            raise errors.TooMany(300)


if __name__ == '__main__':
    unittest.main()
