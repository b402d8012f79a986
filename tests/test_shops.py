import random
import unittest

from tests.reading import CHANGES, MANNERS, is_stock, keeps, level, small_stocks, some_books, some_standing
from tests.values import any_values, bent, nested, spoiled
from unseenstocks.books import Book
from unseenstocks.errors import BadRow, BadStanding, BadStocks, NoStock, OtherJobs
from unseenstocks.shops import Shop

BOOK = Book("jobs ann bob\nclean ann\nlet 2 0 0 0\nlet 0 0 1 0\nnot 3 0 0 0")
STOCKS = ((4, ((-2, 2), (-1, 0))), (1, ((0, 0), (-1, 1))))
ALL = Book("jobs p c s f\nclean c\nspent s\nfree f")
BIG = 999999999999


class Example(unittest.TestCase):
    def test_example_of_the_document(self):
        shop = Shop(BOOK, STOCKS)
        self.assertEqual(
            [shop.level(0, ((2, 1), (1, 0))), shop.lets(((1, 0), (2, 1))),
             shop.stop((("begin", "bob"), ("begin", "bob"))), shop.broken(BOOK)],
            [1, True, (1, (1,)), ()])
        self.assertIs(shop.lets(((1, 0), (2, 1))), True)


class Making(unittest.TestCase):
    def refused(self, book, stocks):
        with self.assertRaises(BadStocks) as caught:
            Shop(book, stocks)
        self.assertIs(caught.exception.value, stocks)

    def test_jobs_and_stocks(self):
        for stocks in ((), STOCKS, STOCKS * 6, STOCKS[:1] * 12):
            shop = Shop(BOOK, stocks)
            self.assertEqual((shop.jobs, shop.stocks), (("ann", "bob"), stocks))
        self.assertEqual(Shop(book=BOOK, stocks=STOCKS), Shop(BOOK, STOCKS))

    def test_more_than_twelve(self):
        self.refused(BOOK, STOCKS[:1] * 13)
        self.refused(BOOK, STOCKS * 7)

    def test_changes_by_manner(self):
        for manner in MANNERS:
            book = Book("jobs a" if manner == "plain" else f"jobs a\n{manner} a")
            for begin in (-BIG, -2, -1, 0, 1, 2, BIG):
                for end in (-BIG, -2, -1, 0, 1, 2, BIG):
                    stocks = ((3, ((begin, end),)),)
                    if CHANGES[manner](begin, end):
                        self.assertEqual(Shop(book, stocks).stocks, stocks)
                    else:
                        self.refused(book, stocks)

    def test_each_job_has_its_own_manner(self):
        good = (0, ((-1, 2), (-3, 3), (-4, 0), (5, -6)))
        self.assertEqual(Shop(ALL, (good,)).stocks, (good,))
        for shift in (1, 2, 3):
            self.refused(ALL, ((0, good[1][shift:] + good[1][:shift]),))
        self.refused(ALL, (good, (0, good[1][::-1])))

    def test_what_is_there_in_the_morning(self):
        self.assertEqual(Shop(BOOK, ((0, ((0, 0), (0, 0))),))[0][0], 0)
        for first in (-1, True, False, None, "1", (1,), -BIG):
            self.refused(BOOK, ((first, ((0, 0), (0, 0))),))

    def test_facts_do_not_count(self):
        stock = (0, ((-1, 1), (-1, 0)))
        self.assertEqual(Shop(BOOK, (stock,)).stocks, (stock,))
        self.assertEqual(Shop(BOOK, (stock,)), Shop(Book("jobs ann bob\nclean ann"), (stock,)))

    def test_wrong_values(self):
        good = ((1, ((-1, 1), (-2, 0))), (0, ((0, 0), (-1, 3))))
        for value in any_values() + spoiled(good) + bent(good) + [list(good), [list(stock) for stock in good]]:
            right = type(value) is tuple and len(value) <= 12
            if right and all(is_stock(stock, ("clean", "plain")) for stock in value):
                self.assertEqual(Shop(BOOK, value).stocks, value)
            else:
                self.refused(BOOK, value)
        for deep in (nested(30), (nested(29),), ((1, nested(28)),), ((1, (nested(27), (0, 0))),)):
            self.refused(BOOK, deep)


class Levels(unittest.TestCase):
    def shops(self):
        chance = random.Random(61)
        for book in some_books(62, 40, (0, 0, 0), 0):
            for many in (0, 1, 3, 12):
                stocks = []
                for _ in range(many):
                    changes = []
                    for job in book.jobs:
                        size = 10 ** chance.choice((1, 2, 12)) - 1
                        begin, end = chance.randint(-size, 0), chance.randint(0, size)
                        changes.append({"clean": (begin, -begin), "spent": (begin, 0), "free": (end, begin)}.get(
                            book.manner(job), (begin, end)))
                    stocks.append((chance.choice((0, 40, BIG, BIG)), tuple(changes)))
                yield book, Shop(book, tuple(stocks))

    def test_level_and_lets(self):
        chance = random.Random(63)
        for book, shop in self.shops():
            for most in (0, 3, 40):
                standing = some_standing(chance, len(book.jobs), most)
                levels = [level(stock, standing) for stock in shop.stocks]
                self.assertEqual([shop.level(number, standing) for number in range(len(shop))], levels)
                self.assertIs(shop.lets(standing), min(levels, default=0) >= 0)
                if levels:
                    self.assertEqual(shop.level(standing=standing, number=0), levels[0])
                    self.assertIs(type(shop.level(0, standing)), int)

    def test_zero_is_let_and_one_below_is_not(self):
        book = Book("jobs a")
        for first in (0, 1, 39, 40):
            shop = Shop(book, ((first, ((-1, 0),)),))
            for begun in range(41):
                self.assertIs(shop.lets(((begun, 0),)), begun <= first)

    def test_stop(self):
        chance = random.Random(64)
        stopped = 0
        for book, shop in self.shops():
            for _ in range(4):
                row, open_jobs, standing = [], {job: [0, 0] for job in book.jobs}, None
                told = None
                for number in range(chance.randint(0, 24)):
                    ends = [job for job in book.jobs if open_jobs[job][0] > open_jobs[job][1]]
                    word = chance.choice(("begin", "end")) if ends else "begin"
                    job = chance.choice(ends if word == "end" else book.jobs)
                    open_jobs[job][word == "end"] += 1
                    row.append((word, job))
                    standing = tuple(tuple(open_jobs[job]) for job in book.jobs)
                    short = tuple(n for n, stock in enumerate(shop.stocks) if level(stock, standing) < 0)
                    if told is None and short:
                        told = (number, short)
                self.assertEqual(shop.stop(tuple(row)), told)
                self.assertEqual(shop.stop(row=tuple(row)), told)
                stopped += told is not None
        self.assertGreater(stopped, 20)

    def test_stop_tells_the_first_event_and_all_stocks_below(self):
        shop = Shop(Book("jobs a b"), ((1, ((-1, 0), (0, 0))), (5, ((-3, 3), (0, 0))), (1, ((-1, 1), (-1, 1)))))
        self.assertEqual(shop.stop((("begin", "a"), ("begin", "a"), ("end", "a"), ("begin", "a"))), (1, (0, 1, 2)))
        self.assertEqual(shop.stop((("begin", "a"), ("end", "a"), ("begin", "a"))), (2, (0,)))
        self.assertIsNone(shop.stop((("begin", "b"),) + (("end", "b"), ("begin", "b")) * 11))
        self.assertEqual(shop.stop((("begin", "b"),) * 24), (1, (2,)))
        self.assertIsNone(shop.stop(()))

    def test_an_end_can_stop_a_free_job(self):
        shop = Shop(Book("jobs a\nfree a"), ((0, ((1, -2),)),))
        self.assertEqual(shop.stop((("begin", "a"), ("end", "a"))), (1, (0,)))

    def test_wrong_numbers_and_standings(self):
        shop = Shop(BOOK, STOCKS)
        good = ((2, 1), (1, 0))
        for number in any_values() + [2, 3, 12, -2, 1.0]:
            for standing in (good, None):
                if type(number) is int and 0 <= number < 2:
                    continue
                with self.assertRaises(NoStock) as caught:
                    shop.level(number, standing)
                self.assertIs(caught.exception.value, number)
        for standing in any_values() + spoiled(good) + [((41, 0), (0, 0)), ((0, 1), (0, 0)), ((0, 0),) * 3]:
            if type(standing) is tuple and standing == ((0, 0), (0, 0)):
                continue
            for call in (shop.lets, lambda value: shop.level(1, value), Shop(BOOK, ()).lets):
                with self.assertRaises(BadStanding) as caught:
                    call(standing)
                self.assertIs(caught.exception.value, standing)
        with self.assertRaises(NoStock):
            Shop(BOOK, ()).level(0, good)

    def test_wrong_rows(self):
        shop = Shop(BOOK, STOCKS)
        good = (("begin", "ann"), ("end", "ann"), ("begin", "bob"))
        for row in any_values() + spoiled(good) + [good * 8 + good[:1], (("end", "ann"),), good + (("end", "cat"),)]:
            with self.assertRaises(BadRow) as caught:
                shop.stop(row)
            self.assertIs(caught.exception.value, row)


class Facts(unittest.TestCase):
    def test_broken_and_fits(self):
        chance = random.Random(65)
        both = set()
        for book in some_books(66, 120, (4, 2, 2), 3):
            manners = tuple(map(book.manner, book.jobs))
            stocks = small_stocks(manners, 2, 1)
            keeping = [stock for stock in stocks if keeps(stock, book.facts)] or stocks
            for _ in range(8):
                chosen = tuple(chance.choice(chance.choice((stocks, keeping))) for _ in range(chance.randint(0, 4)))
                shop = Shop(book, chosen)
                broken = []
                for number, fact in enumerate(book.facts):
                    let = all(level(stock, fact[1]) >= 0 for stock in chosen)
                    so = let if fact[0] == "let" else not let
                    if fact[0] == "as":
                        so = all(level(stock, fact[1]) == level(stock, fact[2]) for stock in chosen)
                    if not so:
                        broken.append(number)
                self.assertEqual(shop.broken(book), tuple(broken))
                self.assertEqual(shop.broken(book=book), tuple(broken))
                self.assertIs(shop.fits(book), broken == [])
                both.add((shop.fits(book=book), len(book) > 2))
        self.assertEqual(len(both), 4)

    def test_no_stocks_fit_just_books_without_refusals(self):
        shop = Shop(BOOK, ())
        self.assertEqual((shop.broken(BOOK), shop.fits(BOOK)), ((2,), False))
        self.assertIs(shop.fits(BOOK.untold(2)), True)

    def test_a_not_needs_one_stock_and_a_let_all(self):
        book = Book("jobs a\nlet 1 0\nnot 2 0\nas 1 0 to 1 1\nlet 0 0")
        low, high = (0, ((-1, 1),)), (1, ((-1, 0),))
        self.assertEqual(Shop(book, (high,)).broken(book), ())
        self.assertEqual(Shop(book, (high, low)).broken(book), (0, 2))
        self.assertEqual(Shop(book, ((5, ((-1, 0),)),)).broken(book), (1,))

    def test_other_jobs(self):
        shop = Shop(BOOK, STOCKS)
        for text in ("jobs ann bob", "jobs bob ann\nclean ann", "jobs ann\nclean ann", "jobs ann bob\nclean bob",
                     "jobs ann bob\nspent ann", "jobs ann bob\nclean ann\nfree bob", "jobs ann bob cat\nclean ann",
                     "jobs ann cat\nclean ann", "jobs cat bob\nclean cat", "jobs bob ann\nclean bob"):
            book = Book(text)
            for call in (shop.broken, shop.fits):
                with self.assertRaises(OtherJobs) as caught:
                    call(book)
                self.assertIs(caught.exception.value, book)
        for text in ("jobs a b\nclean a\nspent b", "jobs a b\nspent b\nclean a"):
            self.assertIs(Shop(Book("jobs a b\nspent b\nclean a"), ()).fits(Book(text)), True)


class Together(unittest.TestCase):
    def test_joined(self):
        one, other = Shop(BOOK, STOCKS), Shop(BOOK.untold(0), STOCKS[1:])
        self.assertEqual((one | other).stocks, STOCKS + STOCKS[1:])
        self.assertEqual((other | one).stocks, STOCKS[1:] + STOCKS)
        self.assertEqual(((one | other).jobs, one.stocks, other.stocks), (("ann", "bob"), STOCKS, STOCKS[1:]))
        self.assertEqual(one | Shop(BOOK, ()), one)
        self.assertEqual(len(Shop(BOOK, STOCKS * 3) | Shop(BOOK, STOCKS * 3)), 12)
        self.assertEqual((one | other).broken(BOOK), ())

    def test_too_many(self):
        with self.assertRaises(BadStocks) as caught:
            Shop(BOOK, STOCKS * 6) | Shop(BOOK, STOCKS[:1])
        self.assertEqual(caught.exception.value, STOCKS * 6 + STOCKS[:1])

    def test_other_jobs_come_ahead_of_too_many(self):
        for text in ("jobs ann bob", "jobs bob ann\nclean ann", "jobs ann bob\nclean bob", "jobs ann\nclean ann",
                     "jobs ann cat\nclean ann", "jobs bob ann\nclean bob"):
            stock = (0, ((0, 0),) * (len(text.split("\n")[0].split(" ")) - 1))
            other = Shop(Book(text), (stock,) * 12)
            with self.assertRaises(OtherJobs) as caught:
                Shop(BOOK, STOCKS) | other
            self.assertIs(caught.exception.value, other)

    def test_length_and_stocks_by_number(self):
        for many in range(13):
            shop = Shop(BOOK, (STOCKS * 6)[:many])
            self.assertEqual(len(shop), many)
            self.assertEqual(tuple(shop[number] for number in range(many)), shop.stocks)
            for number in any_values() + [many, many + 1, -1, -many, "0", (0,), slice(0, 1)]:
                if type(number) is int and 0 <= number < many:
                    continue
                with self.assertRaises(NoStock) as caught:
                    shop[number]
                self.assertIs(caught.exception.value, number)

    def test_equal(self):
        shop = Shop(BOOK, STOCKS)
        self.assertEqual(shop, Shop(Book("jobs ann bob\nclean ann\nlet 9 0 9 9"), tuple(STOCKS)))
        for other in (Shop(BOOK, STOCKS[::-1]), Shop(BOOK, STOCKS[:1]), Shop(BOOK, STOCKS * 2), Shop(BOOK, ()),
                      Shop(Book("jobs ann bob"), STOCKS), Shop(Book("jobs ann bo\nclean ann"), STOCKS),
                      Shop(Book("jobs ann bob\nclean ann\nfree bob"), STOCKS), BOOK, STOCKS, *any_values()):
            self.assertFalse(shop == other)
            self.assertTrue(shop != other)
        self.assertFalse(Shop(Book("jobs a b"), ()) == Shop(Book("jobs b a"), ()))


if __name__ == "__main__":
    unittest.main()
