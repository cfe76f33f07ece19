"""The refusals: their names, what each stands under, and the field of NoRun."""

import unittest

from steadyhand import errors

NAMES = ("NoNumber", "BadThing", "BadRule", "TooMany", "NoRun", "NotClosed", "NotPlain", "BadTurn", "NoText", "NoRow")


class ErrorsTest(unittest.TestCase):
    def test_steady_error_is_a_value_error(self):
        self.assertEqual(errors.SteadyError.__bases__, (ValueError,))

    def test_each_class_is_straight_under_steady_error(self):
        for name in NAMES:
            with self.subTest(name=name):
                self.assertEqual(getattr(errors, name).__bases__, (errors.SteadyError,))

    def test_none_is_under_or_the_same_as_another(self):
        for name in NAMES:
            for other in NAMES:
                with self.subTest(name=name, other=other):
                    under = issubclass(getattr(errors, name), getattr(errors, other))
                    self.assertEqual(under, name == other)

    def test_each_is_called_by_its_name(self):
        for name in NAMES + ("SteadyError",):
            with self.subTest(name=name):
                self.assertEqual(getattr(errors, name).__name__, name)

    def test_each_can_be_raised_and_taken_as_a_refusal(self):
        for name in NAMES:
            with self.subTest(name=name):
                with self.assertRaises(errors.SteadyError):
                    raise getattr(errors, name)(0)

    def test_a_no_run_has_its_step(self):
        for step in (0, 1, 7):
            with self.subTest(step=step):
                with self.assertRaises(errors.NoRun) as caught:
                    raise errors.NoRun(step)
                self.assertEqual(caught.exception.step, step)

    def test_each_no_run_has_a_step_of_its_own(self):
        first = errors.NoRun(2)
        errors.NoRun(5)
        self.assertEqual(first.step, 2)


if __name__ == "__main__":
    unittest.main()
