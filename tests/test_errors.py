import unittest

from lostweights import errors

PLAIN = ("BadLoss", "BadNumber", "BadPrices", "BadChances", "BadStep")
WITH_FIELD = (("BadBox", "index"), ("BadOrders", "index"), ("BadLine", "line"), ("TooMany", "most"))


class ErrorsTest(unittest.TestCase):
    def test_the_base_class_is_a_value_error(self):
        self.assertEqual(errors.WeightError.__bases__, (ValueError,))

    def test_all_others_are_direct_subclasses(self):
        for name in PLAIN + tuple(name for name, _ in WITH_FIELD):
            self.assertEqual(getattr(errors, name).__bases__, (errors.WeightError,), name)

    def test_plain_errors_are_made_without_fields(self):
        for name in PLAIN:
            error = getattr(errors, name)()
            self.assertIsInstance(error, errors.WeightError)
            self.assertEqual(vars(error), {}, name)

    def test_fields_are_set_when_the_error_is_made(self):
        for name, field in WITH_FIELD:
            for value in (None, 0, 7):
                self.assertEqual(vars(getattr(errors, name)(value)), {field: value}, name)
                self.assertEqual(vars(getattr(errors, name)(**{field: value})), {field: value}, name)


if __name__ == "__main__":
    unittest.main()
