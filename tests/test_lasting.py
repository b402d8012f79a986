import random
import unittest

from tests.reading import (
    are_mixtures, fitted_books, is_int, is_mixture, is_stock, keeps, level, manners_of, some_row)
from tests.values import any_values, bent, spoiled
from unseenstocks.books import Book
from unseenstocks.days import standings
from unseenstocks.errors import BadLap, NoShop
from unseenstocks.lasting import lasting, shows_lasting
from unseenstocks.mixing import sure

BOOK = Book("jobs ann bob\nclean ann\nlet 2 0 0 0\nlet 0 0 1 0\nnot 3 0 0 0")
NONE = Book("jobs ann bob\nnot 0 0 0 0")
ANN, BOB = (("begin", "ann"), ("end", "ann")), (("begin", "bob"), ("end", "bob"))


def lap_number(passed, number):
    """The standings behind the events of the lap with this number."""
    return tuple(tuple((begun + (number - 1) * whole[0], ended + (number - 1) * whole[1])
                       for (begun, ended), whole in zip(standing, passed[-1])) for standing in passed)


def is_result(book, lap, value):
    passed, manners = standings(book, lap), manners_of(book)
    if type(value) is not tuple or not value or type(value[0]) is not str:
        return False
    if value[0] == "ever" and len(value) == 3:
        if not are_mixtures(manners, book.facts, passed, value[1]):
            return False
        return is_mixture(manners, book.facts, passed[-1], value[2]) and value[2][1] == ()
    if value[0] != "until" or len(value) != 5:
        return False
    _, lap, mixtures, number, stock = value
    if not is_int(lap) or lap < 1 or not is_int(number) or not 0 <= number < len(passed):
        return False
    if not is_stock(stock, manners) or not keeps(stock, book.facts):
        return False
    if level(stock, lap_number(passed, lap)[number]) >= 0 or type(mixtures) is not tuple:
        return False
    if lap == 1:
        return mixtures == ()
    return (len(mixtures) == 2 and are_mixtures(manners, book.facts, passed, mixtures[0])
            and are_mixtures(manners, book.facts, lap_number(passed, lap - 1), mixtures[1]))


def some_lap(chance, jobs):
    row = list(some_row(chance, jobs, chance.randint(1, 3)))
    running = []
    for word, job in row:
        running.append(job) if word == "begin" else running.remove(job)
    chance.shuffle(running)
    return tuple(row + [("end", job) for job in running])


class Lasting(unittest.TestCase):
    def test_example_of_the_document(self):
        self.assertEqual(lasting(BOOK, ANN)[0], "ever")
        self.assertEqual(lasting(BOOK, BOB)[:2], ("until", 2))

    def test_results_are_right(self):
        chance = random.Random(160)
        found = {}
        for many, most, number in (((24, 6, 4), 40, 50), ((24, 6, 0), 40, 60), ((8, 2, 1), 6, 60), ((4, 0, 1), 3, 60)):
            for book in fitted_books(161 + most, number, many, most):
                for lap in (some_lap(chance, book.jobs), some_lap(chance, book.jobs[:1])):
                    told = lasting(book, lap)
                    self.assertTrue(is_result(book, lap, told), (book.text, lap, told))
                    self.assertIs(shows_lasting(book, lap, told), True)
                    self.assertEqual(lasting(lap=lap, book=book), told)
                    key = told[0] if told[0] == "ever" else min(told[1], 4)
                    found[key] = found.get(key, 0) + 1
        self.assertEqual(set(found), {"ever", 1, 2, 3, 4})
        self.assertGreater(min(found.values()), 10)

    def test_laps_one_by_one(self):
        chance = random.Random(162)
        for book in fitted_books(163, 60, (8, 0, 1), 12):
            lap = some_lap(chance, book.jobs)
            passed = standings(book, lap)
            told = lasting(book, lap)
            for number in range(1, 41):
                asked = lap_number(passed, number)
                if max(begun for standing in asked for begun, _ in standing) > 40:
                    break
                words = [sure(book, standing)[0] for standing in asked]
                if told[0] == "until" and told[1] == number:
                    self.assertEqual(words[told[3]], "stock")
                    break
                self.assertEqual(set(words), {"sure"}, (book.text, lap, number))

    def test_by_hand(self):
        lap = (("begin", "a"), ("end", "a"))
        self.assertEqual(lasting(Book("jobs a\nlet 1 0"), lap)[:2], ("until", 2))
        self.assertEqual(lasting(Book("jobs a\nlet 1 0\nlet 9 8"), lap)[:2], ("until", 10))
        self.assertEqual(lasting(Book("jobs a\nlet 40 39\nlet 1 0"), lap)[:2], ("until", 41))
        self.assertEqual(lasting(Book("jobs a b\nlet 4 4 0 0\nlet 0 0 9 8"), lap)[:2], ("until", 1))
        self.assertEqual(lasting(Book("jobs a\nspent a\nlet 7 0"), lap)[:2], ("until", 8))
        self.assertEqual(lasting(Book("jobs a\nspent a\nlet 7 0"), lap * 3)[:2], ("until", 3))
        self.assertEqual(lasting(Book("jobs a\nlet 1 0\nas 3 3 to 0 0"), lap)[0], "ever")
        self.assertEqual(lasting(Book("jobs a\nlet 1 0\nas 4 3 to 1 0"), lap)[0], "ever")
        self.assertEqual(lasting(Book("jobs a\nclean a"), lap)[:2], ("until", 1))
        self.assertEqual(lasting(Book("jobs a\nclean a\nlet 1 0"), lap)[0], "ever")
        self.assertEqual(lasting(Book("jobs a\nfree a\nlet 40 40\nlet 40 39\nlet 1 0"), lap)[:2], ("until", 41))

    def test_very_great_numbers(self):
        # 40 of a take as much as one of b, 40 of c as one of a, and 40 of d as one of c.
        book = Book(
            "jobs a b c d\nspent a\nspent b\nspent c\nspent d\nlet 0 0 40 0 0 0 0 0\nas 40 0 0 0 0 0 0 0 to 0 0 1 0 0 0 0 0"
            "\nas 0 0 0 0 40 0 0 0 to 1 0 0 0 0 0 0 0\nas 0 0 0 0 0 0 40 0 to 0 0 0 0 1 0 0 0")
        told = lasting(book, (("begin", "d"), ("end", "d")))
        self.assertEqual(told[:2], ("until", 40 ** 4 + 1))
        self.assertTrue(is_result(book, (("begin", "d"), ("end", "d")), told))
        self.assertEqual(lasting(book, (("begin", "d"), ("end", "d")) * 3)[1], 40 ** 4 // 3 + 1)

    def test_great_numbers_of_laps_are_right(self):
        chance = random.Random(164)
        greatest = 0
        for book in fitted_books(165, 150, (2, 0, 4), 40, (3, 4)):
            for job in book.jobs:
                lap = (("begin", job), ("end", job))
                told = lasting(book, lap)
                self.assertTrue(is_result(book, lap, told), (book.text, lap, told))
                self.assertIs(shows_lasting(book, lap, told), True)
                if told[0] == "until":
                    greatest = max(greatest, told[1])
                    if told[1] > 1:
                        self.assertIs(shows_lasting(book, lap, ("until", told[1] + chance.randint(1, 9)) + told[2:]), False)
        self.assertGreater(greatest, 41)


class Shows(unittest.TestCase):
    def test_values_near_to_right_ones(self):
        words = {True: 0, False: 0}
        chance = random.Random(166)
        for book in fitted_books(167, 40, (6, 0, 1), 5, (1, 2)) + [Book("jobs a\nlet 1 0\nlet 4 3"), BOOK]:
            lap = some_lap(chance, book.jobs)[:6]
            told = lasting(book, lap)
            for value in bent(told) + [("ever",) + told[1:3], ("ever", told[2][0] if told[2] else (), told[2])]:
                right = is_result(book, lap, value)
                self.assertIs(shows_lasting(book, lap, value), right, (book.text, lap, value))
                words[right] += 1
        self.assertGreater(min(words.values()), 100)

    def test_any_values(self):
        for lap in (ANN, BOB):
            for value in any_values() + ["ever", ("ever", (), ()), ("until", 2, (), 0, ()), ("until",), ("until", 1, (), 0)]:
                self.assertIs(shows_lasting(BOOK, lap, value), False)

    def test_mixture_of_the_whole_lap_has_no_weights(self):
        book = Book("jobs a\nlet 1 0\nlet 1 1\nas 2 2 to 1 1")
        lap = (("begin", "a"), ("end", "a"))
        mixtures = ((1, ((0, 1),), ()), (1, ((1, 1),), ()))
        self.assertIs(shows_lasting(book, lap, ("ever", mixtures, (1, (), ((2, 1),)))), True)
        self.assertIs(shows_lasting(book, lap, ("ever", mixtures, (1, ((1, 1),), ()))), False)
        self.assertIs(shows_lasting(book, lap, ("ever", mixtures, (1, ((1, 1),), ((2, 1),)))), False)
        self.assertIs(shows_lasting(book, lap, ("ever", mixtures, (2, (), ((2, 1),)))), False)
        self.assertIs(shows_lasting(book, lap, ("ever", mixtures[:1], (1, (), ((2, 1),)))), False)
        self.assertIs(shows_lasting(book, lap, ("ever", mixtures * 2, (1, (), ((2, 1),)))), False)

    def test_the_first_lap_that_is_not_sure(self):
        book = Book("jobs a\nspent a\nlet 3 0")
        lap = (("begin", "a"), ("end", "a"))
        stock = (3, ((-1, 0),))
        first = ((3, ((0, 1),), ()), (3, ((0, 1),), ()))
        whole = ((1, ((0, 1),), ()), (1, ((0, 1),), ()))
        for value, right in ((("until", 4, (first, whole), 0, stock), True), (("until", 4, (whole, whole), 1, stock), True),
                             (("until", 4, (first, first), 0, stock), False), (("until", 5, (first, whole), 0, stock), False),
                             (("until", 3, (first, whole), 0, stock), False), (("until", 4, (), 0, stock), False),
                             (("until", 1, (), 0, stock), False), (("until", 4, (first, whole), 2, stock), False),
                             (("until", 4, (first, whole, whole), 0, stock), False),
                             (("until", 4, (first, whole), 0, (4, ((-1, 0),))), False),
                             (("until", 4, (first, whole), 0, (2, ((-1, 0),))), False),
                             (("until", 10 ** 50, (first, whole), 0, stock), False),
                             (("until", 0, (), 0, stock), False), (("until", True, (), 0, stock), False)):
            self.assertIs(shows_lasting(book, lap, value), right, value)
        none = Book("jobs a\nspent a")
        self.assertIs(shows_lasting(none, lap, ("until", 1, (), 1, (0, ((-1, 0),)))), True)
        self.assertIs(shows_lasting(none, lap, ("until", 1, (first, whole), 1, (0, ((-1, 0),)))), False)
        self.assertIs(shows_lasting(none, lap, ("until", 1, [], 1, (0, ((-1, 0),)))), False)


class Wrong(unittest.TestCase):
    def test_no_lap(self):
        wrong = any_values() + [value for value in spoiled(ANN + BOB)]
        wrong += [(), ANN * 4, ANN[:1], ANN + BOB[:1], ANN[::-1], (("begin", "cat"), ("end", "cat")), list(ANN), ANN[1:]]
        wrong += [(("begin", "ann"), ("begin", "ann"), ("end", "ann")), (("begin", "ann"), ("end", "bob"))]
        for book in (BOOK, NONE):
            for value in wrong:
                for call in (lambda: lasting(book, value), lambda: shows_lasting(book, value, None)):
                    with self.assertRaises(BadLap) as caught:
                        call()
                    self.assertIs(caught.exception.value, value)

    def test_six_events(self):
        for lap in (ANN * 3, ANN[:1] * 3 + ANN[1:] * 3, ANN[:1] + BOB[:1] * 2 + ANN[1:] + BOB[1:] * 2):
            self.assertTrue(is_result(BOOK, lap, lasting(BOOK, lap)))

    def test_no_shop(self):
        for call in (lambda: lasting(NONE, ANN), lambda: shows_lasting(NONE, ANN, None)):
            with self.assertRaises(NoShop) as caught:
                call()
            self.assertIs(caught.exception.value, NONE)


if __name__ == "__main__":
    unittest.main()
