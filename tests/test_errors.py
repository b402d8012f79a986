import unittest

from tests.values import any_values
from unseenstocks import errors
from unseenstocks.books import Book

NAMES = (
    "BadBook NoJob BadFact Full NoFact OtherJobs BadRow BadDay BadStocks NoStock BadStanding NoShop BadClaim"
    " NotSure BadLap BadLot BadEvents BadTasks BadOffers BadEvent Contrary BadNumber NothingToUndo NothingToRedo"
    " NoTrial BadJournal BadLine"
).split()


class Errors(unittest.TestCase):
    def test_all_errors_are_there_and_no_others(self):
        there = {name for name, value in vars(errors).items() if isinstance(value, type)}
        self.assertEqual(there, {"StockError", *NAMES})
        self.assertEqual(len(NAMES), 27)

    def test_each_derives_directly_from_stock_error(self):
        self.assertEqual(errors.StockError.__bases__, (ValueError,))
        for name in NAMES:
            error = getattr(errors, name)
            self.assertEqual(error.__bases__, (errors.StockError,), name)
            self.assertEqual(error.__name__, name)
            self.assertEqual(error.__module__, "unseenstocks.errors")

    def test_none_is_one_of_the_others(self):
        for name in NAMES:
            caught = [other for other in NAMES if isinstance(getattr(errors, name)(0), getattr(errors, other))]
            self.assertEqual(caught, [name])
            self.assertNotIsInstance(errors.StockError(0), getattr(errors, name))

    def test_each_keeps_its_argument_as_value(self):
        values = any_values() + ["text", 0, 1, (), Book("jobs a b"), ValueError(3)]
        for name in ["StockError", *NAMES]:
            for value in values:
                self.assertIs(getattr(errors, name)(value).value, value)

    def test_each_is_raised_and_caught_with_its_value(self):
        for name in NAMES:
            value = [name]
            with self.assertRaises(ValueError) as caught:
                raise getattr(errors, name)(value)
            self.assertIs(caught.exception.value, value)

    def test_each_takes_one_argument(self):
        for name in ["StockError", *NAMES]:
            self.assertRaises(TypeError, getattr(errors, name))
            self.assertRaises(TypeError, getattr(errors, name), 1, 2)


if __name__ == "__main__":
    unittest.main()
