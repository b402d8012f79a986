import itertools
import random
import unittest

from tests.reading import (
    LINES, fits, fitted_books, is_int, is_stock, keeps, level, manners_of, parts_are_right, seen_of, small_stocks,
    some_book, some_books, sums)
from tests.values import any_values, bent, nested
from unseenstocks.books import Book
from unseenstocks.errors import BadLot, NoShop
from unseenstocks.explaining import bars, fewest, shows_fewest, shows_together, together
from unseenstocks.fitting import possible
from unseenstocks.mixing import sure
from unseenstocks.shops import Shop

BOOK = Book("jobs ann bob\nclean ann\nlet 2 0 0 0\nlet 0 0 1 0\nnot 3 0 0 0")
TWO_KINDS = Book("jobs a b\nlet 2 0 1 0\nlet 1 0 2 0\nnot 3 0 0 0\nnot 0 0 3 0")
NONE = Book("jobs a b\nlet 1 0 0 0\nnot 0 0 9 0\nnot 1 0 0 0\nnot 0 0 8 0")


def refusals(book):
    return [number for number, fact in enumerate(book.facts) if fact[0] == "not"]


def lots(book):
    numbers = refusals(book)
    return [lot for size in range(1, len(numbers) + 1) for lot in itertools.combinations(numbers, size)]


def explains(book, lot, value):
    if not is_stock(value, manners_of(book)) or not keeps(value, book.facts):
        return False
    return all(level(value, book.facts[number][1]) < 0 for number in lot)


def is_apart(book, lot, value):
    if type(value) is not tuple or len(value) != 3:
        return False
    shares, weights, backs = value
    if type(shares) is not tuple or len(shares) != len(lot):
        return False
    for number, part in zip(lot, shares):
        if type(part) is not tuple or len(part) != 2 or not all(map(is_int, part)) or part[0] != number or part[1] < 0:
            return False
    whole = sum(m for _, m in shares)
    if whole == 0 or not parts_are_right(book.facts, weights, backs) or sum(w for _, w in weights) > whole:
        return False
    for job, manner in enumerate(manners_of(book)):
        pair = [sum(m * book.facts[number][1][job][at] for number, m in shares) for at in (0, 1)]
        if not LINES[manner](*sums(book.facts, weights, backs, job), *pair):
            return False
    return True


def is_together(book, lot, value):
    if type(value) is not tuple or len(value) != 2 or type(value[0]) is not str:
        return False
    if value[0] == "stock":
        return explains(book, lot, value[1])
    return value[0] == "apart" and is_apart(book, lot, value[1])


def words_of(book):
    """Of each lot whether one stock explains it: both answers prove themselves."""
    words = {(): "stock"}
    for lot in lots(book):
        told = together(book, lot)
        assert is_together(book, lot, told), (book.text, lot, told)
        words[lot] = told[0]
    return words


def fewest_of(book, words):
    """The least number of lots into which the refusals can be parted, each way of parting gone through."""
    def least(numbers):
        if not numbers:
            return 0
        found = []
        for size in range(len(numbers)):
            for rest in itertools.combinations(numbers[1:], size):
                if words[numbers[:1] + rest] == "stock":
                    found.append(1 + least(tuple(number for number in numbers[1:] if number not in rest)))
        return min(found)
    return least(tuple(refusals(book)))


class Example(unittest.TestCase):
    def test_example_of_the_document(self):
        self.assertEqual(
            [together(TWO_KINDS, (2, 3))[0], bars(TWO_KINDS), fewest(TWO_KINDS)[0], fewest(BOOK)[0]],
            ["apart", ((2, 3),), 2, 1])


class Together(unittest.TestCase):
    def test_results_are_right(self):
        found = {"stock": 0, "apart": 0}
        for many, most, number in (((24, 6, 4), 40, 8), ((12, 6, 0), 40, 12), ((5, 5, 1), 5, 30), ((2, 4, 1), 3, 30)):
            for book in some_books(170 + most, number, many, most):
                for lot in lots(book):
                    told = together(book, lot)
                    self.assertTrue(is_together(book, lot, told), (book.text, lot, told))
                    self.assertIs(shows_together(book, lot, told), True)
                    self.assertEqual(together(lot=lot, book=book), told)
                    found[told[0]] += len(lot) > 1
        self.assertGreater(min(found.values()), 100)

    def test_one_number_agrees_with_sure(self):
        for book in some_books(171, 80, (4, 4, 1), 4):
            for number in refusals(book):
                standing = book.facts[number][1]
                told, word = together(book, (number,)), sure(book, standing)[0]
                self.assertEqual(told[0], {"sure": "apart"}.get(word, word))
                if told[0] == "apart":
                    (_, times), = told[1][0]
                    self.assertEqual(sure(book, standing), ("sure", (times,) + told[1][1:]))

    def test_books_that_no_shop_fits(self):
        self.assertEqual([together(NONE, lot)[0] for lot in ((1,), (2,), (3,), (1, 2), (1, 3), (2, 3), (1, 2, 3))],
                         ["stock", "apart", "stock", "apart", "stock", "apart", "apart"])
        self.assertEqual(bars(NONE), ((2,),))

    def test_by_hand(self):
        book = Book("jobs a b c\nlet 4 0 0 0 0 0\nlet 0 0 4 0 0 0\nlet 0 0 0 0 4 0\nlet 2 0 2 0 2 0\nnot 5 0 0 0 0 0"
                    "\nnot 0 0 5 0 0 0\nnot 0 0 0 0 5 0")
        self.assertEqual([together(book, lot)[0] for lot in lots(book)], ["stock"] * 3 + ["stock"] * 3 + ["apart"])
        self.assertEqual((bars(book), fewest(book)[0]), (((4, 5, 6),), 2))
        for value, right in (
                ((((4, 1), (5, 1), (6, 1)), ((3, 3),), ()), True), ((((4, 1), (5, 1), (6, 1)), ((3, 2),), ()), False),
                ((((4, 2), (5, 2), (6, 2)), ((3, 5),), ()), True), ((((4, 2), (5, 2), (6, 2)), ((3, 4),), ()), False),
                ((((4, 6), (5, 6), (6, 6)), ((3, 18),), ()), True), ((((4, 6), (5, 6), (6, 6)), ((3, 19),), ()), False),
                ((((4, 0), (5, 0), (6, 0)), (), ()), False), ((((4, 1), (5, 1)), ((3, 3),), ()), False),
                ((((4, 4), (5, 4), (6, 5)), ((3, 13),), ()), True), ((((5, 2), (4, 2), (6, 2)), ((3, 6),), ()), False)):
            self.assertIs(is_apart(book, (4, 5, 6), value), right, value)
            self.assertIs(shows_together(book, (4, 5, 6), ("apart", value)), right, value)

    def test_beside_all_small_stocks(self):
        found = {"stock": 0, "apart": 0}
        for book in some_books(172, 40, (3, 3, 1), 3, (1, 2)):
            stocks = [stock for stock in small_stocks(manners_of(book), 4, 2) if keeps(stock, book.facts)]
            for lot in lots(book):
                small = [stock for stock in stocks if all(level(stock, book.facts[at][1]) < 0 for at in lot)]
                word = together(book, lot)[0]
                found[word] += 1
                if small:
                    self.assertEqual(word, "stock")
                    self.assertIs(shows_together(book, lot, ("stock", small[-1])), True)
        self.assertGreater(min(found.values()), 10)

    def test_values_near_to_right_ones(self):
        words = {True: 0, False: 0}
        for book in some_books(173, 40, (3, 3, 1), 3, (1, 2)):
            for lot in lots(book)[-2:]:
                for value in bent(together(book, lot)):
                    right = is_together(book, lot, value)
                    self.assertIs(shows_together(book, lot, value), right, (book.text, lot, value))
                    words[right] += 1
        self.assertGreater(min(words.values()), 100)

    def test_any_values(self):
        for value in any_values() + ["stock", ("apart",), ("apart", ()), ("apart", ((), (), ())), ("apart", nested(29))]:
            for lot in ((2,), (3,), (2, 3)):
                self.assertIs(shows_together(TWO_KINDS, lot, value), is_together(TWO_KINDS, lot, value))

    def test_no_lot(self):
        wrong = any_values() + [(2, 2), (3, 2), (2, 3, 3), (1,), (0, 2), (2, 4), (-1,), (2, None), [2, 3], (2, [3]), ()]
        wrong += [value for value in bent((2, 3)) if value not in ((2,), (3,), (2, 3))]
        wrong += [((2, 3),), {2: 3}, "23", 2, (True,), (2, True), nested(30), (2.0,)]
        for value in wrong:
            for call in (lambda: together(TWO_KINDS, value), lambda: shows_together(TWO_KINDS, value, None)):
                with self.assertRaises(BadLot) as caught:
                    call()
                self.assertIs(caught.exception.value, value)
        one = Book("jobs a\nlet 1 0\nnot 2 0")
        with self.assertRaises(BadLot):
            together(one, (True,))
        self.assertEqual(together(one, (1,))[0], "stock")
        self.assertIs(shows_together(one, (1,), ("stock", (1, ((-1, 0),)))), True)


class Bars(unittest.TestCase):
    def test_beside_all_lots(self):
        sizes = set()
        for many, most, number in (((8, 6, 0), 8, 40), ((4, 6, 1), 4, 40), ((24, 6, 1), 40, 10), ((2, 6, 0), 3, 40)):
            for book in some_books(174 + most, number, many, most) + fitted_books(175 + most, number, many, most):
                words = words_of(book)
                told = []
                for lot in lots(book):
                    parts = [lot[:at] + lot[at + 1:] for at in range(len(lot))]
                    if words[lot] == "apart" and all(words[part] == "stock" for part in parts):
                        told.append(lot)
                        sizes.add(len(lot))
                self.assertEqual(bars(book), tuple(sorted(told)))
                self.assertEqual(bars(book=book), tuple(sorted(told)))
        self.assertLessEqual({1, 2, 3}, sizes)

    def test_without_refusals(self):
        for text in ("jobs a", "jobs a b\nlet 1 0 1 0\nas 1 0 0 0 to 0 0 0 0"):
            self.assertEqual(bars(Book(text)), ())

    def test_ascending(self):
        book = Book("jobs a b\nnot 0 0 3 0\nlet 2 0 1 0\nnot 3 0 0 0\nlet 1 0 2 0\nnot 4 0 0 0\nnot 0 0 4 0\nnot 1 1 1 1")
        self.assertEqual(bars(book), tuple(sorted(bars(book))))
        self.assertIn((0, 2), bars(book))


class Fewest(unittest.TestCase):
    def is_fewest(self, book, value, least):
        if type(value) is not tuple or len(value) != 2 or not is_int(value[0]) or value[0] != least:
            return False
        return fits(value[1], book, manners_of(book), book.facts) and len(value[1].stocks) == least

    def test_beside_all_ways_of_parting(self):
        found = set()
        for many, most, number in (((8, 6, 0), 8, 40), ((4, 6, 1), 4, 40), ((24, 6, 1), 40, 10), ((2, 6, 0), 3, 40)):
            for book in fitted_books(176 + most, number, many, most):
                least = fewest_of(book, words_of(book))
                told = fewest(book)
                self.assertTrue(self.is_fewest(book, told, least), (book.text, told))
                self.assertIs(shows_fewest(book, told), True)
                self.assertEqual(fewest(book=book), told)
                found.add(least)
                for value in bent(told) + [(least + 1, told[1] | told[1]), (2 * least, told[1] | told[1])]:
                    self.assertIs(shows_fewest(book, value), self.is_fewest(book, value, least), (book.text, value))
        self.assertEqual(found, {0, 1, 2})

    def test_without_refusals(self):
        for text in ("jobs a", "jobs a b\nlet 1 0 1 0\nas 1 0 0 0 to 0 0 0 0"):
            book = Book(text)
            self.assertEqual(fewest(book), (0, Shop(book, ())))
            self.assertIs(shows_fewest(book, (0, Shop(book, ()))), True)
            self.assertIs(shows_fewest(book, (False, Shop(book, ()))), False)

    def test_many_kinds(self):
        # Two jobs together run as far as one of them alone: so no stock explains the refusals of two.
        for kinds in (2, 3, 4):
            lines = ["jobs " + " ".join("abcd"[:kinds])]
            for one, other in itertools.combinations(range(kinds), 2):
                lines.append("let " + " ".join("9 0" if job in (one, other) else "0 0" for job in range(kinds)))
            for job in range(kinds):
                lines.append("not " + " ".join("10 0" if at == job else "0 0" for at in range(kinds)))
            lines.append("not 11 2" + " 0 0" * (kinds - 1))
            lines.append("not 10 0 10 0" + " 0 0" * (kinds - 2))
            book = Book("\n".join(lines))
            told = fewest(book)
            self.assertEqual((told[0], fewest_of(book, words_of(book))), (kinds, kinds))
            self.assertTrue(self.is_fewest(book, told, kinds))
            self.assertIs(shows_fewest(book, told), True)
            self.assertIs(shows_fewest(book, (kinds + 2, possible(book)[1])), False)
            self.assertEqual(len([lot for lot in bars(book) if len(lot) == 2]) >= kinds * (kinds - 1) // 2, True)

    def test_the_greatest_lots_are_not_always_the_best(self):
        jobs = "jobs a b c\nspent a\nspent b\nspent c\n"
        book = Book(
            jobs + "let 3 0 0 0 3 0\nlet 0 0 2 0 1 0\nlet 0 0 2 0 0 0\nlet 3 0 0 0 0 0\nlet 2 0 2 0 3 0\nlet 2 0 0 0 1 0\n"
            "not 0 0 4 0 3 0\nnot 0 0 1 0 4 0\nnot 3 0 3 0 1 0\nnot 4 0 4 0 0 0\nnot 4 0 1 0 4 0\nnot 4 0 0 0 0 0")
        facts = list(book.facts)
        for start in range(6):
            turned = Book(jobs.rstrip("\n"))
            for fact in facts[:6] + facts[6 + start:] + facts[6:6 + start]:
                turned = turned.told(fact)
            told = fewest(turned)
            self.assertEqual((told[0], fewest_of(turned, words_of(turned))), (2, 2))
            self.assertIs(shows_fewest(turned, told), True)

    def test_never_more_than_a_shop_that_was_seen(self):
        chance = random.Random(177)
        for book in some_books(178, 40, (0, 0, 1), 3, (1, 2, 3)):
            stocks = [stock for stock in small_stocks(manners_of(book), 3, 1) if keeps(stock, book.facts)]
            for many in (1, 2, 3):
                shop = Shop(book, tuple(chance.choice(stocks) for _ in range(many)))
                seen = seen_of(chance, shop, book, 25, 4)
                told = fewest(seen)
                self.assertLessEqual(told[0], many)
                self.assertIs(shows_fewest(seen, (many, shop)), told[0] == many)

    def test_any_values(self):
        for value in any_values() + [(1, None), (1,), [1, fewest(BOOK)[1]], (1, fewest(BOOK)[1], 1), (True, fewest(BOOK)[1])]:
            self.assertIs(shows_fewest(BOOK, value), False)
        for other in (TWO_KINDS, Book("jobs ann bob\nlet 2 0 0 0\nlet 0 0 1 0\nnot 3 0 0 0")):
            self.assertIs(shows_fewest(BOOK, (1, Shop(other, ((2, ((-1, 1), (0, 0))),)))), False)
        self.assertIs(shows_fewest(BOOK, (1, Shop(BOOK, ((2, ((-1, 1), (0, 0))),)))), True)

    def test_no_shop(self):
        for book in (NONE, Book("jobs a\nnot 0 0")):
            for call in (lambda: fewest(book), lambda: shows_fewest(book, None)):
                with self.assertRaises(NoShop) as caught:
                    call()
                self.assertIs(caught.exception.value, book)

    def test_agrees_with_possible(self):
        chance = random.Random(179)
        for manners in (("plain",) * 4, ("free", "clean", "spent", "plain")):
            book = some_book(chance, manners, (6, 6, 0), 9)
            if possible(book)[0] == "shop":
                self.assertLessEqual(fewest(book)[0], len(possible(book)[1]))


if __name__ == "__main__":
    unittest.main()
