"""Point 2: the errors."""

import unittest

from farasnothing import errors
from tests.samples import any_values

NAMED = {
    'value': 'BadStamp BadDelay BadModel NoStation NoPort BadWorths NoHandler BadWorth BadChanges BadCount BadKnows '
             'BadRoofs NoLine BadState BadPrices BadTime BadPicture BadValue BadOrder',
    'line': 'NothingOnWay Waits Inner OnWay BadText BadLine',
    'station': 'NoItem Behind Unreached Forgotten',
    'stamp': 'TooEarly',
}
BARE = 'Over HasChanges UnderWay NothingToUndo NothingToRedo'


class Errors(unittest.TestCase):

    def test_all_derive_directly(self):
        self.assertEqual(errors.FarError.__bases__, (ValueError,))
        names = ' '.join([*NAMED.values(), BARE]).split()
        self.assertEqual(len(names), 35)
        for name in names:
            self.assertEqual(getattr(errors, name).__bases__, (errors.FarError,), name)
            self.assertEqual(getattr(errors, name).__module__, 'farasnothing.errors')

    def test_all_keep_any_value(self):
        for argument, names in NAMED.items():
            for name in names.split():
                for value in any_values():
                    error = getattr(errors, name)
                    self.assertIs(getattr(error(value), argument), value)
                    self.assertIs(getattr(error(**{argument: value}), argument), value)
                    self.assertIsInstance(str(error(value)), str)

    def test_those_without_arguments(self):
        for name in BARE.split():
            self.assertEqual(vars(getattr(errors, name)()), {})
            self.assertIsInstance(str(getattr(errors, name)()), str)


if __name__ == '__main__':
    unittest.main()
