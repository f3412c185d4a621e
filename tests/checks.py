"""What several tests ask: that an error is raised with the very value."""

import copy


class Checks:
    """Beside unittest.TestCase."""

    def assertRaisesNaming(self, error, value, act, *args, **named):
        """The error, no other one, is raised with an equal value, such as the name of a station."""
        with self.assertRaises(error) as caught:
            act(*args, **named)
        self.assertIs(type(caught.exception), error)
        self.assertEqual(list(vars(caught.exception).values())[0], value)

    def assertRaisesWith(self, error, value, act, *args, **named):
        """The error, no other one, is raised with the very value, and the arguments are as they were."""
        before = copy.deepcopy((args, named))
        with self.assertRaises(error) as caught:
            act(*args, **named)
        self.assertIs(type(caught.exception), error)
        self.assertIs(list(vars(caught.exception).values())[0], value)
        self.assertEqual((args, named), before)
