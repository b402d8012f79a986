import itertools
import random
import unittest

from tests.reading import (
    fits, fitted_books, is_weighed, keeps, level, manners_of, small_stocks, some_claim, some_standing, with_lets)
from tests.values import any_values, bent, spoiled
from unseenstocks.books import Book
from unseenstocks.days import standings
from unseenstocks.errors import BadClaim, NoShop
from unseenstocks.judging import follows, judged, shows_follows, shows_judged
from unseenstocks.shops import Shop

BOOK = Book("jobs ann bob\nclean ann\nlet 2 0 0 0\nlet 0 0 1 0\nnot 3 0 0 0")
BOTH, TWO = ("lets", ((1, 0), (1, 0))), ("lets", ((0, 0), (2, 0)))
NONE = Book("jobs ann bob\nnot 0 0 0 0")


def wanted(book, claim):
    return (claim[1],) if claim[0] == "lets" else standings(book, claim[1])


def is_judged(book, claim, value):
    return is_weighed(book, book.facts, wanted(book, claim), "never", value)


def is_followed(book, claim, other, value):
    """Whether a value is a result of follows; that the claim is never so is told by judged, which has to prove it."""
    facts = with_lets(book.facts, wanted(book, claim))
    if judged(book, claim)[0] == "never":
        return type(value) is tuple and value[:1] == ("never",) and is_judged(book, claim, value)
    return is_weighed(book, facts, wanted(book, other), "bars", value)


class Example(unittest.TestCase):
    def test_example_of_the_document(self):
        claims = (("goes", (("begin", "ann"), ("begin", "ann"))), ("lets", ((3, 0), (1, 0))), BOTH, ("goes", ()))
        self.assertEqual([judged(BOOK, claim)[0] for claim in claims], ["always", "never", "open", "always"])
        self.assertEqual([follows(BOOK, TWO, BOTH)[0], follows(BOOK, BOTH, TWO)[0]], ["always", "open"])


class Judged(unittest.TestCase):
    def test_results_are_right(self):
        words = set()
        chance = random.Random(120)
        for many, most, number in (((24, 6, 4), 40, 30), ((24, 6, 1), 40, 30), ((5, 4, 1), 5, 60), ((3, 3, 0), 3, 60)):
            for book in fitted_books(121 + most, number, many, most):
                for claim in [some_claim(chance, book, size) for size in (1, 3, most // 2, most)]:
                    told = judged(book, claim)
                    self.assertTrue(is_judged(book, claim, told), (book.text, claim, told))
                    self.assertIs(shows_judged(book, claim, told), True)
                    words.add((told[0], claim[0], len(book.jobs)))
        self.assertEqual(len(words), 24)

    def test_claims_of_facts(self):
        for book in fitted_books(122, 40, (6, 6, 2), 6):
            for fact in book.facts:
                word = {"let": "always", "not": "never"}.get(fact[0])
                told = judged(book, ("lets", fact[1]))
                self.assertTrue(told[0] == word or fact[0] == "as")
                self.assertTrue(is_judged(book, ("lets", fact[1]), told))
            self.assertEqual(judged(book, ("goes", ())), ("always", ()))
            self.assertEqual(judged(book, ("lets", book.first))[0], "always")

    def test_beside_all_small_shops(self):
        chance = random.Random(123)
        found = {"always": 0, "never": 0, "open": 0}
        for book in fitted_books(124, 60, (3, 2, 1), 3, (1, 2)):
            stocks = [stock for stock in small_stocks(manners_of(book), 4, 2) if keeps(stock, book.facts)]
            refused = [fact[1] for fact in book.facts if fact[0] == "not"]
            for claim in [some_claim(chance, book, size) for size in (1, 2, 3, 4)]:
                asked = wanted(book, claim)
                fitting = all(any(level(stock, one) < 0 for stock in stocks) for one in refused)
                denied = any(level(stock, one) < 0 for stock in stocks for one in asked)
                letting = [stock for stock in stocks if all(level(stock, one) >= 0 for one in asked)]
                agreed = all(any(level(stock, one) < 0 for stock in letting) for one in refused)
                word = judged(book, claim)[0]
                found[word] += 1
                self.assertFalse(word == "always" and denied, (book.text, claim))
                self.assertFalse(word == "never" and agreed, (book.text, claim))
                if fitting and denied and agreed:
                    self.assertEqual(word, "open", (book.text, claim))
        self.assertGreater(min(found.values()), 10)

    def test_numbers_beyond_the_book(self):
        claim = ("goes", (("begin", "bob"), ("begin", "ann"), ("begin", "ann"), ("begin", "ann")))
        told = judged(BOOK, claim)
        self.assertEqual(told[:2], ("never", 2))
        for mixture, right in (((1, ((6, 1),), ()), True), ((1, ((5, 1),), ()), False), ((1, ((7, 1),), ()), False),
                               ((2, ((6, 2),), ()), True), ((3, ((0, 1), (6, 2)), ()), False)):
            self.assertIs(shows_judged(BOOK, claim, ("never", 2, mixture)), right)
        again = ("goes", (("begin", "ann"), ("begin", "ann")))
        self.assertIs(shows_judged(BOOK, again, ("always", ((2, ((0, 1),), ()), (1, ((0, 1),), ())))), True)
        self.assertIs(shows_judged(BOOK, again, ("always", ((2, ((0, 1),), ()), (1, ((4, 1),), ())))), False)

    def test_values_near_to_right_ones(self):
        words = {True: 0, False: 0}
        chance = random.Random(125)
        for book in fitted_books(126, 30, (3, 2, 1), 3, (1, 2)):
            claim = some_claim(chance, book, 3)
            told = judged(book, claim)
            values = bent(told)
            if told[0] == "open":
                shops = told[1:] + (Shop(book, told[1].stocks[1:]), Shop(book, told[2].stocks[1:]), told[1] | told[2])
                values += [("open", one, other) for one in shops for other in shops]
            for value in values:
                right = is_judged(book, claim, value)
                self.assertIs(shows_judged(book, claim, value), right, (book.text, claim, value))
                words[right] += 1
        self.assertGreater(min(words.values()), 100)

    def test_any_values(self):
        for claim in (BOTH, TWO, ("goes", ())):
            for value in any_values() + ["always", ("always", []), ("always", ((),)), ("open", 1, 2), ("never", 2, ())]:
                self.assertIs(shows_judged(BOOK, claim, value), is_judged(BOOK, claim, value), value)
        self.assertIs(shows_judged(BOOK, ("goes", ()), ("always", ())), True)


class Follows(unittest.TestCase):
    def test_results_are_right(self):
        words = set()
        chance = random.Random(130)
        for many, most, number in (((24, 6, 2), 40, 16), ((5, 6, 1), 6, 50), ((2, 4, 0), 3, 60), ((3, 4, 1), 4, 60)):
            for book in fitted_books(131 + most, number, many, most):
                for size in (1, 2, most // 2, most):
                    claim, other = some_claim(chance, book, size), some_claim(chance, book, 1 + most // 2)
                    told = follows(book, claim, other)
                    self.assertTrue(is_followed(book, claim, other, told), (book.text, claim, other, told))
                    self.assertIs(shows_follows(book, claim, other, told), True)
                    words.add((told[0], other[0]))
        self.assertEqual(len(words), 8)

    def test_the_row_of_no_events(self):
        chance = random.Random(132)
        none = ("goes", ())
        for book in fitted_books(133, 40, (4, 3, 1), 4):
            claim = some_claim(chance, book, 4)
            told = judged(book, claim)
            if told[0] == "never":
                self.assertEqual(follows(book, none, claim), ("bars",) + told[1:])
            else:
                self.assertEqual(follows(book, none, claim), told)
            self.assertEqual(follows(book, claim, none)[0], "never" if told[0] == "never" else "always")
            self.assertEqual(follows(book, claim, claim)[0], "never" if told[0] == "never" else "always")

    def test_as_judged_with_the_claim_told_let(self):
        chance = random.Random(134)
        found = set()
        for book in fitted_books(135, 80, (4, 4, 1), 4):
            claim = ("lets", some_standing(chance, len(book.jobs), 4))
            other = some_claim(chance, book, 4)
            told = follows(book, claim, other)[0]
            found.add(told)
            if told == "never":
                self.assertEqual(judged(book, claim)[0], "never")
            else:
                more = book.told(("let", claim[1]))
                self.assertEqual(judged(more, other)[0], {"bars": "never"}.get(told, told))
        self.assertEqual(found, {"never", "always", "bars", "open"})

    def test_values_near_to_right_ones(self):
        words = {True: 0, False: 0}
        chance = random.Random(136)
        for book in fitted_books(137, 30, (3, 3, 1), 3, (1, 2)):
            claim, other = some_claim(chance, book, 2), some_claim(chance, book, 3)
            told = follows(book, claim, other)
            values = bent(told) + [(word,) + told[1:] for word in ("never", "always", "bars", "open")]
            for value in values + [judged(book, claim), judged(book, other), follows(book, other, claim)]:
                right = is_followed(book, claim, other, value)
                self.assertIs(shows_follows(book, claim, other, value), right, (book.text, claim, other, value))
                words[right] += 1
        self.assertGreater(min(words.values()), 100)

    def test_nothing_but_never_where_the_claim_is_never_so(self):
        claim = ("lets", ((3, 0), (0, 0)))
        self.assertEqual(follows(BOOK, claim, TWO)[:2], ("never", 2))
        for other in (TWO, claim, ("goes", ()), ("lets", BOOK.first)):
            mixture = (1, ((3, 1),), ())
            self.assertIs(shows_follows(BOOK, claim, other, ("never", 2, mixture)), True)
            self.assertIs(shows_follows(BOOK, claim, other, ("bars", 2, mixture)), False)
            for mixtures in ((), (mixture,), ((1, (), ()),), ((1, ((1, 1),), ()),)):
                self.assertIs(shows_follows(BOOK, claim, other, ("always", mixtures)), False)

    def test_numbers_are_those_of_the_claim_and_then_of_the_other(self):
        book = Book("jobs a b\nlet 0 0 1 0\nnot 1 0 1 0\nnot 5 0 0 0")
        claim = ("goes", (("begin", "a"), ("begin", "a")))
        other = ("goes", (("begin", "b"), ("begin", "b")))
        self.assertEqual(follows(book, claim, other)[:2], ("bars", 1))
        for mixture, right in (((2, ((4, 1), (6, 1)), ()), True), ((1, ((4, 1),), ()), False),
                               ((2, ((3, 1), (6, 1)), ()), False), ((2, ((4, 1), (7, 1)), ()), False)):
            self.assertIs(shows_follows(book, claim, other, ("bars", 1, mixture)), right)
        self.assertIs(shows_follows(book, claim, ("lets", ((2, 1), (0, 0))), ("always", ((1, ((4, 1),), ()),))), True)
        self.assertIs(shows_follows(book, claim, ("lets", ((2, 1), (0, 0))), ("always", ((1, ((5, 1),), ()),))), False)

    def test_shops_of_open(self):
        told = follows(BOOK, BOTH, TWO)
        facts = with_lets(BOOK.facts, [BOTH[1]])
        self.assertTrue(fits(told[1], BOOK, ("clean", "plain"), facts + (("let", TWO[1]),)))
        self.assertTrue(fits(told[2], BOOK, ("clean", "plain"), facts + (("not", TWO[1]),)))
        loose = Shop(BOOK, ((2, ((-1, 1), (0, 0))), (1, ((0, 0), (-1, 0)))))
        shared = Shop(BOOK, ((2, ((-1, 1), (-2, 0))),))
        self.assertIs(shows_follows(BOOK, BOTH, TWO, ("open", told[1], loose)), True)
        self.assertIs(shows_follows(BOOK, BOTH, TWO, ("open", told[1], shared)), False)
        self.assertIs(shows_follows(BOOK, BOTH, TWO, ("open", loose, loose)), False)


class Wrong(unittest.TestCase):
    def wrong_claims(self):
        row = (("begin", "ann"), ("end", "ann"))
        found = any_values() + spoiled(BOTH) + spoiled(("goes", row))
        found += [("lets", ((41, 0), (0, 0))), ("lets", row), ("goes", BOTH[1]), ("goes", row * 13), ("goes", list(row))]
        found += [("goes", (("end", "ann"),)), ("goes", (("begin", "cat"),)), ("lets", ((1, 0),)), ("let", BOTH[1])]
        return found + [["goes", ()], ("goes",), ("goes", (), ()), ("goes", None), ("goes", row[::-1]), "goes"]

    def test_no_claim(self):
        good = ("goes", ())
        for value in self.wrong_claims():
            calls = (
                lambda: judged(BOOK, value), lambda: shows_judged(BOOK, value, None), lambda: follows(BOOK, value, good),
                lambda: follows(BOOK, good, value), lambda: shows_follows(BOOK, value, good, None),
                lambda: shows_follows(BOOK, good, value, None), lambda: judged(NONE, value),
                lambda: follows(NONE, good, value), lambda: shows_judged(NONE, value, 1),
                lambda: shows_follows(NONE, good, value, 1), lambda: follows(BOOK, value, None))
            for call in calls:
                with self.assertRaises(BadClaim) as caught:
                    call()
                self.assertIs(caught.exception.value, value)

    def test_rows_of_up_to_24_events(self):
        row = (("begin", "ann"), ("end", "ann")) * 12
        self.assertEqual(judged(BOOK, ("goes", row))[0], "always")
        self.assertEqual(len(judged(BOOK, ("goes", row))[1]), 24)
        with self.assertRaises(BadClaim):
            judged(BOOK, ("goes", row + (("begin", "ann"),)))

    def test_no_shop(self):
        for book in (NONE, Book("jobs ann bob\nlet 2 0 0 0\nnot 1 0 0 0")):
            for call in (lambda: judged(book, BOTH), lambda: shows_judged(book, BOTH, ("always", ())),
                         lambda: follows(book, BOTH, TWO), lambda: shows_follows(book, BOTH, TWO, None)):
                with self.assertRaises(NoShop) as caught:
                    call()
                self.assertIs(caught.exception.value, book)


class Guarantees(unittest.TestCase):
    def test_more_seen(self):
        chance = random.Random(140)
        kept = set()
        for book in fitted_books(141, 60, (4, 3, 1), 4):
            for _ in range(4):
                claim = some_claim(chance, book, 4)
                fact = (chance.choice(("let", "not")), some_standing(chance, len(book.jobs), 4))
                if judged(book, ("lets", fact[1]))[0] == "open":
                    word, more = judged(book, claim)[0], judged(book.told(fact), claim)[0]
                    if word != "open":
                        self.assertEqual(more, word)
                        kept.add(word)
        self.assertEqual(kept, {"always", "never"})

    def test_what_is_told_holds_in_all_small_shops(self):
        chance = random.Random(142)
        for book in fitted_books(143, 20, (3, 1, 1), 3, (1, 2)):
            stocks = [stock for stock in small_stocks(manners_of(book), 3, 1) if keeps(stock, book.facts)]
            claim, other = some_claim(chance, book, 3), some_claim(chance, book, 3)
            words = (judged(book, claim)[0], follows(book, claim, other)[0])
            for chosen in itertools.islice(itertools.product(stocks, repeat=2), 400):
                shop = Shop(book, chosen)
                if not shop.fits(book):
                    continue
                so, too = [all(map(shop.lets, wanted(book, one))) for one in (claim, other)]
                self.assertIn(words[0], ("open", "always" if so else "never"))
                if so:
                    self.assertIn(words[1], ("open", "always" if too else "bars"))


if __name__ == "__main__":
    unittest.main()
