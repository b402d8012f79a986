import inspect
import unittest

from unseenstocks import books, days
from unseenstocks.books import Book


def parameters(call):
    return list(inspect.signature(call).parameters)


class Interface(unittest.TestCase):
    def test_defined_where_listed(self):
        for module, names in ((books, ["Book"]), (days, ["standings", "heard"])):
            for name in names:
                self.assertEqual(getattr(module, name).__module__, module.__name__)

    def test_methods_stand_in_the_class_itself(self):
        for name in ("manner", "told", "untold", "__len__", "__contains__", "__or__", "__eq__"):
            self.assertIn(name, vars(Book))

    def test_attributes_are_set_on_each_object(self):
        for name in ("text", "jobs", "first", "facts"):
            self.assertIn(name, vars(Book("jobs a")))

    def test_names_of_arguments(self):
        self.assertEqual(parameters(Book), ["text"])
        self.assertEqual(parameters(Book.manner), ["self", "job"])
        self.assertEqual(parameters(Book.told), ["self", "fact"])
        self.assertEqual(parameters(Book.untold), ["self", "number"])
        self.assertEqual(parameters(days.standings), ["book", "row"])
        self.assertEqual(parameters(days.heard), ["book", "day"])


if __name__ == "__main__":
    unittest.main()
