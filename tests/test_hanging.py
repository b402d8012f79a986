import itertools
import random
import unittest

from tests.reading import (
    fits, fitted_books, is_int, keeps, level, manners_of, parts_are_right, seen_books, small_stocks, sums)
from tests.values import any_values, bent, nested, spoiled
from unseenstocks.books import Book
from unseenstocks.errors import BadEvents, NoShop
from unseenstocks.hanging import hangs, shows_hangs
from unseenstocks.shops import Shop

BOOK = Book("jobs ann bob\nclean ann\nlet 2 0 0 0\nlet 0 0 1 0\nnot 3 0 0 0")
SHARED = Book("jobs a b\nlet 1 0 0 0\nlet 0 0 1 0\nnot 1 0 1 0")
NONE = Book("jobs ann bob\nnot 0 0 0 0")
BEGIN_A, BEGIN_B, END_A, END_B = ("begin", "a"), ("begin", "b"), ("end", "a"), ("end", "b")
# The lines that are left of a job's where one of its events need not hold.
LINES_WITHOUT = {
    ("plain", None): lambda begun, ended, b, e: begun >= b and ended <= e,
    ("plain", "begin"): lambda begun, ended, b, e: ended <= e,
    ("plain", "end"): lambda begun, ended, b, e: begun >= b,
    ("clean", None): lambda begun, ended, b, e: begun - ended >= b - e,
    ("clean", "begin"): lambda begun, ended, b, e: True,
    ("clean", "end"): lambda begun, ended, b, e: True,
    ("spent", None): lambda begun, ended, b, e: begun >= b,
    ("spent", "begin"): lambda begun, ended, b, e: True,
    ("spent", "end"): lambda begun, ended, b, e: begun >= b,
    ("free", None): lambda begun, ended, b, e: begun == b and ended == e,
    ("free", "begin"): lambda begun, ended, b, e: ended == e,
    ("free", "end"): lambda begun, ended, b, e: begun == b,
}


def is_mixture_without(book, event, pairs, value):
    if type(value) is not tuple or len(value) != 3 or not is_int(value[0]) or value[0] < 1:
        return False
    m, weights, backs = value
    if not parts_are_right(book.facts, weights, backs) or sum(w for _, w in weights) > m:
        return False
    for at, job in enumerate(book.jobs):
        line = LINES_WITHOUT[book.manner(job), event[0] if event[1] == job else None]
        if not line(*sums(book.facts, weights, backs, at), m * pairs[at][0], m * pairs[at][1]):
            return False
    return True


def hangs_on_all(book, stock, events):
    return all(stock[1][book.jobs.index(job)][word == "end"] != 0 for word, job in events)


def is_result(book, events, value):
    if type(value) is not tuple or not value or type(value[0]) is not str:
        return False
    if value[0] == "open" and len(value) == 2:
        if not fits(value[1], book, manners_of(book), book.facts):
            return False
        return not any(hangs_on_all(book, stock, events) for stock in value[1].stocks)
    if value[0] != "always" or len(value) != 3:
        return False
    _, number, mixtures = value
    if not is_int(number) or not 0 <= number < len(book.facts) or book.facts[number][0] != "not":
        return False
    if type(mixtures) is not tuple or len(mixtures) != len(events):
        return False
    return all(is_mixture_without(book, event, book.facts[number][1], mixture)
               for event, mixture in zip(events, mixtures))


def all_events(book):
    return [(word, job) for job in book.jobs for word in ("begin", "end")]


def some_events(chance, book):
    events = all_events(book)
    return tuple(chance.sample(events, min(len(events), chance.randint(1, 3))))


class Example(unittest.TestCase):
    def test_example_of_the_document(self):
        self.assertEqual(
            [hangs(SHARED, (BEGIN_A, BEGIN_B))[:2], hangs(SHARED, (END_A,))[0], hangs(BOOK, (("end", "ann"),))[:2]],
            [("always", 2), "open", ("always", 2)])


class Hangs(unittest.TestCase):
    def test_results_are_right(self):
        chance = random.Random(200)
        found = {}
        for many, most, number in (((24, 6, 4), 40, 30), ((24, 6, 0), 40, 30), ((6, 6, 1), 5, 60), ((3, 4, 1), 3, 80)):
            for book in fitted_books(201 + most, number, many, most) + seen_books(201 + most, number):
                for events in [some_events(chance, book) for _ in range(4)]:
                    told = hangs(book, events)
                    self.assertTrue(is_result(book, events, told), (book.text, events, told))
                    self.assertIs(shows_hangs(book, events, told), True)
                    self.assertEqual(hangs(events=events, book=book), told)
                    key = (told[0], len(events))
                    found[key] = found.get(key, 0) + 1
        self.assertEqual(len(found), 6)
        self.assertGreater(min(found.values()), 10)

    def test_manners(self):
        found = set()
        for book in fitted_books(202, 300, (3, 3, 1), 3, (1, 2)):
            for event in all_events(book):
                told = hangs(book, (event,))
                self.assertTrue(is_result(book, (event,), told), (book.text, event, told))
                found.add((book.manner(event[1]), event[0], told[0]))
        words = {(manner, word) for manner, word, told in found if told == "always"}
        self.assertEqual(words, {
            ("plain", "begin"), ("plain", "end"), ("clean", "begin"), ("clean", "end"), ("spent", "begin"),
            ("free", "begin"), ("free", "end")})

    def test_sequence_and_an_event_less(self):
        chance = random.Random(203)
        kept = 0
        for book in fitted_books(204, 60, (4, 4, 1), 4) + seen_books(204, 300):
            events = all_events(book)
            events = tuple(chance.sample(events, min(len(events), 3)))
            word = hangs(book, events)[0]
            for turned in itertools.permutations(events):
                told = hangs(book, turned)
                self.assertEqual(told[0], word)
                self.assertTrue(is_result(book, turned, told))
            for size in range(1, len(events)):
                for fewer in itertools.combinations(events, size):
                    if word == "always":
                        kept += 1
                        self.assertEqual(hangs(book, fewer)[0], "always", (book.text, events, fewer))
        self.assertGreater(kept, 80)

    def test_beside_all_small_shops(self):
        chance = random.Random(205)
        found = {"always": 0, "open": 0}
        for book in fitted_books(206, 120, (3, 2, 1), 3, (1, 2)):
            stocks = [stock for stock in small_stocks(manners_of(book), 4, 2) if keeps(stock, book.facts)]
            refusing = {number: [stock for stock in stocks if level(stock, fact[1]) < 0]
                        for number, fact in enumerate(book.facts) if fact[0] == "not"}
            for events in [some_events(chance, book) for _ in range(3)]:
                told = hangs(book, events)
                found[told[0]] += 1
                without = [any(not hangs_on_all(book, stock, events) for stock in few) for few in refusing.values()]
                if told[0] == "always":
                    self.assertTrue(all(hangs_on_all(book, stock, events) for stock in refusing[told[1]]))
                if all(without):
                    self.assertEqual(told[0], "open", (book.text, events))
        self.assertGreater(min(found.values()), 20)

    def test_by_hand(self):
        for text, events, told in (
                ("jobs a", (BEGIN_A,), "open"), ("jobs a\nnot 1 0", (BEGIN_A,), "always"),
                ("jobs a\nnot 1 0", (END_A,), "open"), ("jobs a\nnot 1 0", (BEGIN_A, END_A), "open"),
                ("jobs a\nclean a\nnot 1 0", (BEGIN_A, END_A), "always"), ("jobs a\nspent a\nnot 1 1", (BEGIN_A,), "always"),
                ("jobs a\nspent a\nnot 1 1", (END_A,), "open"), ("jobs a\nspent a\nnot 1 1", (BEGIN_A, END_A), "open"),
                ("jobs a\nfree a\nnot 1 1", (BEGIN_A,), "open"), ("jobs a\nfree a\nlet 1 0\nnot 1 1", (END_A,), "always"),
                ("jobs a\nfree a\nlet 1 0\nnot 1 1", (BEGIN_A,), "open"),
                ("jobs a\nlet 1 0\nlet 2 1\nnot 2 0", (END_A,), "always"),
                ("jobs a\nlet 1 0\nlet 2 1\nnot 2 0", (BEGIN_A, END_A), "always"),
                ("jobs a b\nlet 1 0 0 0\nlet 0 0 1 0\nnot 1 0 1 0\nnot 9 0 0 0", (BEGIN_A, BEGIN_B), "always"),
                ("jobs a b\nlet 1 0 0 0\nlet 0 0 1 0\nnot 9 0 0 0", (BEGIN_A, BEGIN_B), "open"),
                ("jobs a b c\nlet 1 0 1 0 0 0\nlet 1 0 0 0 1 0\nlet 0 0 1 0 1 0\nnot 1 0 1 0 1 0",
                 (BEGIN_A, BEGIN_B, ("begin", "c")), "always"),
                ("jobs a b c\nlet 1 0 1 0 0 0\nlet 1 0 0 0 1 0\nnot 1 0 1 0 1 0",
                 (BEGIN_A, BEGIN_B, ("begin", "c")), "open"),
                ("jobs a b\nas 1 0 0 0 to 0 0 1 0\nnot 2 0 0 0", (BEGIN_A, BEGIN_B), "always")):
            book = Book(text)
            self.assertEqual(hangs(book, events)[0], told, (text, events))
            self.assertTrue(is_result(book, events, hangs(book, events)))

    def test_lines_by_hand(self):
        book = Book("jobs a b\nlet 1 0 0 0\nlet 2 1 0 0\nnot 2 0 0 0")
        for events, mixtures, right in (
                ((BEGIN_A,), ((1, (), ()),), True), ((END_A,), ((1, ((1, 1),), ()),), True),
                ((END_A,), ((1, ((0, 1),), ()),), False), ((END_A,), ((2, ((0, 1), (1, 1)), ()),), False),
                ((BEGIN_A, END_A), ((1, (), ()), (1, ((1, 1),), ())), True),
                ((END_A, BEGIN_A), ((1, (), ()), (1, ((1, 1),), ())), False),
                ((BEGIN_A, END_A), ((1, (), ()),), False), ((BEGIN_A,), ((1, (), ()), (1, (), ())), False),
                ((BEGIN_B,), ((1, ((1, 1),), ()),), False), ((BEGIN_A, BEGIN_B), ((1, (), ()), (1, (), ())), False)):
            self.assertIs(shows_hangs(book, events, ("always", 2, mixtures)), right, (events, mixtures))
            self.assertIs(shows_hangs(book, events, ("always", 1, mixtures)), False)
        for stocks, right in ((((1, ((-1, 1), (0, 0))),), False), (((1, ((-1, 1), (0, 0))), (9, ((0, 0), (0, 0)))), False)):
            self.assertIs(shows_hangs(book, (BEGIN_A,), ("open", Shop(book, stocks))), right)
            self.assertIs(shows_hangs(book, (BEGIN_A, BEGIN_B), ("open", Shop(book, stocks))), True)

    def test_a_shop_of_open_fits_and_none_of_its_stocks_hangs_on_all(self):
        chance = random.Random(207)
        words = set()
        for book in fitted_books(208, 60, (3, 2, 0), 3, (1, 2)):
            stocks = [stock for stock in small_stocks(manners_of(book), 3, 2) if keeps(stock, book.facts)]
            events = some_events(chance, book)
            for many in (0, 1, 2, 3, 12):
                value = ("open", Shop(book, tuple(chance.choice(stocks) for _ in range(many))))
                right = is_result(book, events, value)
                self.assertIs(shows_hangs(book, events, value), right)
                words.add((right, many))
                if right:
                    self.assertEqual(hangs(book, events)[0], "open")
        self.assertEqual(len(words), 10)


class Shows(unittest.TestCase):
    def test_values_near_to_right_ones(self):
        chance = random.Random(209)
        words = {True: 0, False: 0}
        for book in fitted_books(210, 60, (3, 3, 1), 3, (1, 2)):
            events = some_events(chance, book)
            told = hangs(book, events)
            values = bent(told) + [("always",) + told[1:], ("open",) + told[1:], told[::-1]]
            if told[0] == "always":
                values += [told[:2] + (mixtures,) for mixtures in itertools.permutations(told[2])]
                values += [("always", number, told[2]) for number in range(len(book.facts) + 1)]
            for value in values:
                right = is_result(book, events, value)
                self.assertIs(shows_hangs(book, events, value), right, (book.text, events, value))
                words[right] += 1
        self.assertGreater(min(words.values()), 100)

    def test_any_values(self):
        values = any_values() + ["open", "always", ("always", 2), ("always", 2, ()), ("always", 2, ((),)), ("open", None)]
        for book, events in ((BOOK, (("end", "ann"),)), (BOOK, (("end", "bob"),)), (Book("jobs a"), (BEGIN_A,))):
            for value in values + [("always", True, ((1, (), ()),)), ("always", 2, [(1, (), ())]), ("always", nested(29), ())]:
                self.assertIs(shows_hangs(book, events, value), is_result(book, events, value))


class Wrong(unittest.TestCase):
    def test_no_events(self):
        wrong = any_values() + [()] + spoiled((("begin", "ann"), ("end", "bob")))
        wrong += [(("begin", "ann"), ("begin", "ann")), (("begin", "ann"), ("end", "bob"), ("begin", "ann")), ("begin", "ann")]
        wrong += [tuple(all_events(BOOK)), [("begin", "ann")], (["begin", "ann"],), (("begin", "cat"),), (("no", "ann"),)]
        wrong += [(("begin", "ann", "bob"),), (("begin",),), {("begin", "ann"): 1}, "ann", (("no", "begin", "ann"),)]
        for book in (BOOK, NONE):
            for value in wrong:
                for call in (lambda: hangs(book, value), lambda: shows_hangs(book, value, None),
                             lambda: shows_hangs(book, value, hangs(BOOK, (("end", "ann"),)))):
                    with self.assertRaises(BadEvents) as caught:
                        call()
                    self.assertIs(caught.exception.value, value)

    def test_one_to_three_events_in_any_sequence(self):
        book = Book("jobs a b c d\nfree a\nclean b\nspent c\nnot 1 0 1 0 1 0 1 0")
        for size in (1, 2, 3):
            for events in itertools.permutations(all_events(book), size):
                self.assertTrue(is_result(book, events, hangs(book, events)))
        for events in itertools.combinations(all_events(book), 4):
            with self.assertRaises(BadEvents):
                hangs(book, events)

    def test_no_shop(self):
        for book in (NONE, Book("jobs ann bob\nlet 2 0 0 0\nnot 1 0 0 0\nnot 9 0 0 0")):
            for call in (lambda: hangs(book, (("begin", "ann"),)), lambda: shows_hangs(book, (("begin", "ann"),), None)):
                with self.assertRaises(NoShop) as caught:
                    call()
                self.assertIs(caught.exception.value, book)


if __name__ == "__main__":
    unittest.main()
