import unittest

from passmill import errors

REFUSALS = (
    "NoNumber", "NoProgram", "NoInputs", "NoFact", "NoPass", "NoPlug",
    "Taken", "NoLine", "NoPasses", "NoBack", "NoText",
)


class ErrorsTest(unittest.TestCase):
    def test_all_refusals_are_there_and_no_others(self):
        found = [name for name, thing in vars(errors).items() if isinstance(thing, type)]
        self.assertEqual(sorted(found), sorted(["MillError", *REFUSALS]))

    def test_mill_error_is_a_value_error(self):
        self.assertEqual(errors.MillError.__bases__, (ValueError,))

    def test_each_refusal_stands_below_mill_error_and_none_below_another(self):
        for name in REFUSALS:
            with self.subTest(name=name):
                self.assertEqual(getattr(errors, name).__bases__, (errors.MillError,))

    def test_each_refusal_is_caught_as_any_refusal(self):
        for name in REFUSALS:
            with self.subTest(name=name), self.assertRaises(errors.MillError):
                raise getattr(errors, name)()

    def test_no_line_bears_its_place(self):
        for made, at in ((errors.NoLine(), 0), (errors.NoLine(0), 0), (errors.NoLine(7), 7)):
            self.assertEqual(made.at, at)
            self.assertIs(type(made.at), int)


if __name__ == "__main__":
    unittest.main()
