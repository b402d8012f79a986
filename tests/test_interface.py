import inspect
import unittest

from unseenstocks import books, days, fitting, mixing, shops
from unseenstocks.books import Book
from unseenstocks.shops import Shop

MODULES = (
    (books, ["Book"]), (days, ["standings", "heard"]), (shops, ["Shop"]), (mixing, ["sure", "shows_sure"]),
    (fitting, ["possible", "shows_possible"]),
)


def parameters(call):
    return list(inspect.signature(call).parameters)


class Interface(unittest.TestCase):
    def test_defined_where_listed(self):
        for module, names in MODULES:
            for name in names:
                self.assertEqual(getattr(module, name).__module__, module.__name__)

    def test_methods_stand_in_the_class_itself(self):
        for name in ("manner", "told", "untold", "__len__", "__contains__", "__or__", "__eq__"):
            self.assertIn(name, vars(Book))
        for name in ("level", "lets", "stop", "broken", "fits", "__or__", "__len__", "__getitem__", "__eq__"):
            self.assertIn(name, vars(Shop))

    def test_attributes_are_set_on_each_object(self):
        for name in ("text", "jobs", "first", "facts"):
            self.assertIn(name, vars(Book("jobs a")))
        for name in ("jobs", "stocks"):
            self.assertIn(name, vars(Shop(Book("jobs a"), ())))

    def test_names_of_arguments(self):
        self.assertEqual(parameters(Book), ["text"])
        self.assertEqual(parameters(Book.manner), ["self", "job"])
        self.assertEqual(parameters(Book.told), ["self", "fact"])
        self.assertEqual(parameters(Book.untold), ["self", "number"])
        self.assertEqual(parameters(days.standings), ["book", "row"])
        self.assertEqual(parameters(days.heard), ["book", "day"])
        self.assertEqual(parameters(Shop), ["book", "stocks"])
        self.assertEqual(parameters(Shop.level), ["self", "number", "standing"])
        self.assertEqual(parameters(Shop.lets), ["self", "standing"])
        self.assertEqual(parameters(Shop.stop), ["self", "row"])
        self.assertEqual(parameters(Shop.broken), ["self", "book"])
        self.assertEqual(parameters(Shop.fits), ["self", "book"])
        self.assertEqual(parameters(mixing.sure), ["book", "standing"])
        self.assertEqual(parameters(mixing.shows_sure), ["book", "standing", "value"])
        self.assertEqual(parameters(fitting.possible), ["book"])
        self.assertEqual(parameters(fitting.shows_possible), ["book", "value"])


if __name__ == "__main__":
    unittest.main()
