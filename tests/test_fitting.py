import random
import unittest

from tests.reading import (
    is_possible_result, keeps, level, manners_of, seen_of, small_stocks, some_book, some_books)
from tests.values import any_values, bent
from unseenstocks.books import Book
from unseenstocks.errors import StockError
from unseenstocks.fitting import possible, shows_possible
from unseenstocks.shops import Shop

BOOK = Book("jobs ann bob\nclean ann\nlet 2 0 0 0\nlet 0 0 1 0\nnot 3 0 0 0")


class Example(unittest.TestCase):
    def test_example_of_the_document(self):
        self.assertEqual(
            [possible(BOOK)[0], possible(BOOK.told(("not", ((1, 0), (0, 0)))))[:2], possible(Book("jobs a\nnot 0 0"))[:2]],
            ["shop", ("barred", 3), ("barred", 0)])


class Possible(unittest.TestCase):
    def test_results_are_right(self):
        words = {"shop": 0, "barred": 0}
        for many, most in (((24, 6, 4), 40), ((24, 6, 1), 40), ((6, 6, 1), 5), ((3, 3, 0), 3), ((0, 6, 0), 40)):
            for book in some_books(100 + most, 60, many, most):
                told = possible(book)
                self.assertTrue(is_possible_result(book, told), book.text)
                self.assertIs(shows_possible(book, told), True)
                self.assertIs(shows_possible(book=book, value=told), True)
                self.assertEqual(possible(book=book), told)
                words[told[0]] += 1
        self.assertGreater(min(words.values()), 40)

    def test_never_barred_where_a_shop_fits(self):
        chance = random.Random(101)
        refused = 0
        for book in some_books(102, 80, (0, 0, 2), 3):
            stocks = [stock for stock in small_stocks(manners_of(book), 3, 2 if len(book.jobs) < 3 else 1)
                      if keeps(stock, book.facts)]
            shop = Shop(book, tuple(chance.choice(stocks) for _ in range(chance.randint(0, 5))))
            seen = seen_of(chance, shop, book, 30, 4)
            self.assertIs(shop.fits(seen), True)
            self.assertEqual(possible(seen)[0], "shop")
            self.assertIs(shows_possible(seen, ("shop", shop)), True)
            refused += any(fact[0] == "not" for fact in seen.facts)
        self.assertGreater(refused, 20)

    def test_beside_all_small_stocks(self):
        words = {"shop": 0, "barred": 0}
        for book in some_books(103, 80, (3, 2, 1), 3, (1, 2)):
            stocks = [stock for stock in small_stocks(manners_of(book), 4, 2) if keeps(stock, book.facts)]
            refusals = [fact[1] for fact in book.facts if fact[0] == "not"]
            told = possible(book)
            words[told[0]] += 1
            explained = [any(level(stock, standing) < 0 for stock in stocks) for standing in refusals]
            if all(explained):
                self.assertEqual(told[0], "shop", book.text)
            if told[0] == "barred":
                self.assertFalse(any(level(stock, book.facts[told[1]][1]) < 0 for stock in stocks), book.text)
        self.assertGreater(min(words.values()), 10)

    def test_no_shop_fits(self):
        for text, numbers in (("jobs a\nnot 0 0", {0}), ("jobs a b\nlet 1 0 0 0\nnot 1 0 0 0", {1}),
                              ("jobs a\nlet 4 0\nnot 5 0\nnot 3 0\nnot 2 1", {2, 3}),
                              ("jobs a\nclean a\nnot 1 1\nnot 1 0", {0}),
                              ("jobs a\nspent a\nlet 3 3\nas 0 0 to 1 0\nnot 40 0", {2}),
                              ("jobs a b\nlet 2 0 0 0\nlet 0 0 2 0\nnot 1 0 1 0", {2})):
            book = Book(text)
            told = possible(book)
            self.assertEqual(told[0], "barred")
            self.assertIn(told[1], numbers)
            self.assertTrue(is_possible_result(book, told))

    def test_without_refusals_a_shop_without_stocks_fits(self):
        for text in ("jobs a", "jobs a b c d\nfree b\nlet 40 0 0 0 1 1 2 0", "jobs a\nas 1 0 to 0 0"):
            book = Book(text)
            self.assertEqual(possible(book)[0], "shop")
            self.assertIs(shows_possible(book, ("shop", Shop(book, ()))), True)

    def test_as_many_facts_as_can_be(self):
        chance = random.Random(104)
        for manners in (("plain",) * 4, ("free",) * 4, ("clean", "spent", "free", "plain")):
            for backs in range(5):
                book = some_book(chance, manners, (24, 6, backs), 40)
                self.assertTrue(is_possible_result(book, possible(book)))


class Shows(unittest.TestCase):
    def test_values_near_to_right_ones(self):
        words = {True: 0, False: 0}
        for book in some_books(105, 60, (3, 3, 1), 3):
            told = possible(book)
            values = bent(told)
            if told[0] == "shop":
                for stocks in bent(told[1].stocks):
                    try:
                        values.append(("shop", Shop(book, stocks)))
                    except StockError:
                        pass
            for value in values:
                right = is_possible_result(book, value)
                self.assertIs(shows_possible(book, value), right, (book.text, value))
                words[right] += 1
        self.assertGreater(min(words.values()), 200)

    def test_any_values(self):
        for book in (BOOK, Book("jobs a"), Book("jobs a\nnot 0 0")):
            values = any_values() + ["shop", "barred", ("shop",), ("barred",), ("barred", 0), ("shop", Shop(book, ()), 1)]
            for value in values + [("shop", value) for value in any_values()]:
                self.assertIs(shows_possible(book, value), is_possible_result(book, value))

    def test_shops_of_other_books(self):
        book = Book("jobs a b\nclean a")
        for text, right in (
                ("jobs a b\nclean a", True), ("jobs a b", False), ("jobs b a\nclean a", False), ("jobs a", False),
                ("jobs a b\nclean a\nlet 9 0 9 0\nnot 1 0 1 0", True), ("jobs a b\nclean b", False),
                ("jobs a c\nclean a", False), ("jobs b a\nclean b", False)):
            self.assertIs(shows_possible(book, ("shop", Shop(Book(text), ()))), right)

    def test_barred_with_any_fact_not_and_mixture(self):
        book = Book("jobs a\nlet 4 0\nnot 5 0\nnot 3 0\nnot 2 1\nas 4 1 to 4 0\nlet 3 0")
        for number in range(-1, 7):
            for mixture in ((1, ((0, 1),), ()), (4, ((0, 3),), ()), (1, ((5, 1),), ()), (1, (), ((4, -1),)), (2, (), ())):
                value = ("barred", number, mixture)
                self.assertIs(shows_possible(book, value), is_possible_result(book, value), value)
        self.assertIs(shows_possible(book, ("barred", 3, (4, ((0, 3),), ()))), True)
        self.assertIs(shows_possible(book, ("barred", True, (1, ((0, 1),), ()))), False)

    def test_refusals_need_stocks(self):
        chance = random.Random(106)
        found = set()
        for book in some_books(107, 40, (2, 2, 0), 3, (1, 2)):
            stocks = [stock for stock in small_stocks(manners_of(book), 3, 2) if keeps(stock, book.facts)]
            for many in (0, 1, 2, 6, 12):
                value = ("shop", Shop(book, tuple(chance.choice(stocks) for _ in range(many))))
                right = is_possible_result(book, value)
                self.assertIs(shows_possible(book, value), right)
                found.add((right, many > 0))
                if right:
                    self.assertEqual(possible(book)[0], "shop")
            self.assertIs(shows_possible(book, ("shop", Shop(book, ()))), "\nnot" not in book.text)
        self.assertEqual(len(found), 4)

    def test_standings_of_some_seen_work(self):
        chance = random.Random(108)
        book = Book("jobs a b c\nclean a\nspent c")
        shop = Shop(book, ((5, ((-1, 1), (0, 0), (-1, 0))), (3, ((0, 0), (-1, 0), (-2, 0)))))
        seen = seen_of(chance, shop, book, 200, 6)
        self.assertEqual(len(seen), 30)
        self.assertEqual((possible(seen)[0], shop.broken(seen)), ("shop", ()))
        self.assertIs(shows_possible(seen, ("shop", shop)), True)


if __name__ == "__main__":
    unittest.main()
