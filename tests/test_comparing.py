import itertools
import random
import unittest

from tests.reading import (
    fits, fitted_books, is_barred, is_mixture, keeps, manners_of, seen_books, small_stocks, some_standing,
    with_lets)
from tests.values import any_values, bent, nested
from unseenstocks.books import Book
from unseenstocks.comparing import alike, needless, shows_alike, shows_within, within
from unseenstocks.errors import NoShop, OtherJobs, StockError
from unseenstocks.fitting import possible
from unseenstocks.judging import judged
from unseenstocks.shops import Shop

BOOK = Book("jobs ann bob\nclean ann\nlet 2 0 0 0\nlet 0 0 1 0\nnot 3 0 0 0")
NONE = Book("jobs ann bob\nclean ann\nnot 0 0 0 0")
OTHERS = (
    Book("jobs bob ann\nclean ann"), Book("jobs ann bob"), Book("jobs ann bob\nclean bob"), Book("jobs ann"),
    Book("jobs ann bob\nspent ann"), Book("jobs ann bob cat\nclean ann"), Book("jobs ann cat\nclean ann"),
    Book("jobs ann bob\nclean ann\nfree bob"))


def less(here, there):
    return tuple((b - b_less, e - e_less) for (b, e), (b_less, e_less) in zip(here, there))


def is_paper(one, fact, value):
    manners = manners_of(one)
    if fact[0] == "let":
        return is_mixture(manners, one.facts, fact[1], value)
    if type(value) is not tuple or len(value) != 2:
        return False
    if fact[0] == "not":
        return is_barred(manners, with_lets(one.facts, (fact[1],)), *value)
    both = (less(fact[1], fact[2]), less(fact[2], fact[1]))
    return all(is_mixture(manners, one.facts, pairs, mixture) and mixture[1] == () for pairs, mixture in zip(both, value))


def fits_book(book, value):
    return fits(value, book, manners_of(book), book.facts)


def is_within(one, other, value):
    if type(value) is not tuple or len(value) != 2 or type(value[0]) is not str:
        return False
    if value[0] == "parts":
        return isinstance(value[1], Shop) and fits_book(one, value[1]) and not fits_book(other, value[1])
    if value[0] != "within" or type(value[1]) is not tuple or len(value[1]) != len(other.facts):
        return False
    return all(is_paper(one, fact, paper) for fact, paper in zip(other.facts, value[1]))


def is_alike(one, other, value):
    """Whether a value is a result of alike; that the books are alike is told by within, which has to prove it."""
    if type(value) is not tuple or not value or type(value[0]) is not str:
        return False
    if value[0] == "parts" and len(value) == 2:
        return isinstance(value[1], Shop) and fits_book(one, value[1]) != fits_book(other, value[1])
    if value[0] != "alike" or len(value) != 1:
        return False
    there, back = within(one, other), within(other, one)
    assert is_within(one, other, there) and is_within(other, one, back)
    return there[0] == back[0] == "within"


def near_books(chance, book, most):
    """Books with the same jobs and manners that some shop fits, like or unlike a book."""
    found = [book, turned(chance, book)]
    for number in range(len(book.facts)):
        found.append(book.untold(number))
    for kind in ("let", "not", "as"):
        fact = (kind,) + tuple(some_standing(chance, len(book.jobs), most) for _ in range(1 + (kind == "as")))
        if len(set(fact)) == len(fact):
            found += [told for told in (tell(book, fact), tell(found[-1], fact), tell(empty(book), fact)) if told]
    return [other for other in found + [empty(book)] if possible(other)[0] == "shop"]


def tell(book, fact):
    try:
        return book.told(fact)
    except StockError:
        return None


def empty(book):
    while len(book):
        book = book.untold(0)
    return book


def turned(chance, book):
    facts = list(book.facts)
    chance.shuffle(facts)
    made = empty(book)
    for fact in facts:
        made = made.told(fact)
    return made


class Example(unittest.TestCase):
    def test_example_of_the_document(self):
        fewer = BOOK.untold(2)
        more = BOOK.told(("let", ((2, 1), (0, 0))))
        self.assertEqual(
            [within(BOOK, fewer)[0], within(fewer, BOOK)[0], alike(BOOK, fewer)[0], needless(BOOK), needless(more)],
            ["within", "parts", "parts", (), (3,)])


class Within(unittest.TestCase):
    def test_results_are_right(self):
        chance = random.Random(220)
        words = {}
        kinds = set()
        for many, most, number in (((24, 6, 4), 40, 2), ((6, 6, 1), 5, 8), ((3, 3, 2), 3, 20), ((2, 2, 1), 2, 30)):
            for book in fitted_books(221 + most, number, many, most) + seen_books(221 + most, number // 6):
                for other in near_books(chance, book, most):
                    for one, two in ((book, other), (other, book)):
                        told = within(one, two)
                        self.assertTrue(is_within(one, two, told), (one.text, two.text, told))
                        self.assertIs(shows_within(one, two, told), True)
                        self.assertEqual(within(other=two, one=one), told)
                        words[told[0]] = words.get(told[0], 0) + 1
                        kinds.update((told[0], fact[0]) for fact in two.facts if fact not in one.facts)
        self.assertGreater(min(words.values()), 100)
        self.assertEqual(len(kinds), 6)

    def test_beside_all_small_shops(self):
        chance = random.Random(222)
        found = {"within": 0, "parts": 0}
        for book in fitted_books(223, 36, (2, 2, 1), 2, (1, 2)):
            for other in near_books(chance, book, 2):
                small = small_stocks(manners_of(book), 3, 1)
                stocks = [stock for stock in small if keeps(stock, book.facts)]
                word = within(book, other)[0]
                found[word] += 1
                for chosen in itertools.chain([()], zip(stocks), itertools.islice(itertools.product(stocks, repeat=2), 200)):
                    shop = Shop(book, chosen)
                    if fits_book(book, shop) and not fits_book(other, shop):
                        self.assertEqual(word, "parts", (book.text, other.text, chosen))
                        self.assertIs(shows_within(book, other, ("parts", shop)), True)
        self.assertGreater(min(found.values()), 50)

    def test_by_hand(self):
        for one, other, word in (
                ("", "", "within"), ("let 2 0", "let 1 0", "within"), ("let 1 0", "let 2 0", "parts"),
                ("not 1 0", "not 2 0", "within"), ("not 2 0", "not 1 0", "parts"), ("", "not 2 0", "parts"),
                ("not 2 0", "", "within"), ("", "let 0 0", "within"), ("", "let 1 1", "parts"), ("", "as 1 1 to 0 0", "parts"),
                ("as 1 1 to 0 0", "as 2 2 to 1 1", "within"), ("as 1 1 to 0 0", "as 0 0 to 1 1", "within"),
                ("as 2 2 to 0 0", "as 1 1 to 0 0", "within"), ("as 2 0 to 0 0", "as 7 0 to 4 0", "within"),
                ("as 1 0 to 0 0", "let 40 40", "within"), ("as 1 0 to 0 0", "as 1 1 to 0 0", "parts"),
                ("let 1 0\nnot 3 0", "not 4 2", "parts"), ("let 1 0\nnot 3 0", "not 5 0", "within"),
                ("let 1 0\nas 1 1 to 0 0\nnot 2 0", "not 3 1", "within"), ("not 9 0", "as 1 1 to 0 0", "parts"),
                ("not 9 0\nlet 8 0", "as 1 1 to 0 0", "parts"), ("let 4 0\nnot 5 0", "let 4 0\nnot 5 0\nlet 3 0", "within"),
                ("let 1 0", "not 2 0\nlet 1 0", "parts"), ("not 9 0", "let 1 0", "parts"), ("not 2 0", "let 1 0", "parts")):
            one, other = [Book("\n".join(["jobs a", *text.split("\n")]) if text else "jobs a") for text in (one, other)]
            told = within(one, other)
            self.assertEqual(told[0], word, (one.text, other.text))
            self.assertTrue(is_within(one, other, told), (one.text, other.text))

    def test_numbers_of_papers(self):
        one = Book("jobs a\nnot 3 0\nlet 1 0")
        other = Book("jobs a\nlet 1 1\nnot 4 0\nlet 0 0\nnot 5 0")
        for value, right in (
                (((1, ((1, 1),), ()), (0, (1, ((2, 1),), ())), (1, (), ()), (0, (1, ((2, 1),), ()))), True),
                (((2, ((1, 2),), ()), (0, (2, ((2, 2),), ())), (1, ((1, 1),), ()), (0, (3, ((2, 3),), ()))), True),
                (((1, ((1, 1),), ()), (0, (1, ((1, 1),), ())), (1, (), ()), (0, (1, ((2, 1),), ()))), False),
                (((1, ((1, 1),), ()), (0, (1, ((2, 1),), ())), (1, (), ()), (0, (1, ((3, 1),), ()))), False),
                (((1, ((1, 1),), ()), (1, (1, ((2, 1),), ())), (1, (), ()), (0, (1, ((2, 1),), ()))), False),
                (((1, ((2, 1),), ()), (0, (1, ((2, 1),), ())), (1, (), ()), (0, (1, ((2, 1),), ()))), False),
                (((1, ((1, 1),), ()), (0, (1, ((2, 1),), ())), (1, (), ())), False)):
            self.assertIs(shows_within(one, other, ("within", value)), right, value)

    def test_mixtures_of_as_have_no_weights(self):
        one = Book("jobs a\nfree a\nlet 9 0\nas 2 1 to 1 1\nlet 9 1")
        other = Book("jobs a\nfree a\nas 5 0 to 2 0")
        there, back = (1, (), ((1, 3),)), (1, (), ((1, -3),))
        for value, right in (((there, back), True), ((back, there), False), ((there,), False), ((there, there), False),
                             (((2, (), ((1, 6),)), back), True), (((1, ((0, 1),), ()), back), False),
                             ((there, back, back), False), (((3, ((0, 1),), ()), back), False),
                             ((there, (1, (), ((1, -2),))), False), ((there, (5, (), ((1, -15),))), True),
                             (((1, (), ((1, 4),)), back), False), ([there, back], False)):
            self.assertIs(shows_within(one, other, ("within", (value,))), right, value)
            self.assertIs(is_within(one, other, ("within", (value,))), right, value)
        self.assertEqual(within(one, other)[0], "within")
        # What a plain job has begun is enough one way about without anything: a begin gives nothing.
        one, other = [Book(book.text.replace("free a\n", "")) for book in (one, other)]
        for value, right in (((there, (1, (), ())), True), ((there, there), True), (((1, (), ()), back), False),
                             (((1, ((0, 1),), ()), back), False), ((there, (1, ((0, 1),), ())), False)):
            self.assertIs(shows_within(one, other, ("within", (value,))), right, value)

    def test_values_near_to_right_ones(self):
        chance = random.Random(224)
        words = {True: 0, False: 0}
        for book in fitted_books(225, 12, (2, 2, 1), 2, (1, 2)):
            for other in near_books(chance, book, 2):
                told = within(book, other)
                for value in bent(told) + [("parts", told[1]), ("within", told[1]), within(other, book), alike(book, other)]:
                    right = is_within(book, other, value)
                    self.assertIs(shows_within(book, other, value), right, (book.text, other.text, value))
                    words[right] += 1
        self.assertGreater(min(words.values()), 100)

    def test_any_values(self):
        values = any_values() + ["within", ("within",), ("within", ()), ("within", []), ("parts", None), ("within", nested(29))]
        for one in (BOOK, BOOK.untold(2), empty(BOOK)):
            for other in (BOOK, BOOK.untold(2), empty(BOOK)):
                for value in values:
                    self.assertIs(shows_within(one, other, value), is_within(one, other, value), value)
        self.assertIs(shows_within(BOOK, empty(BOOK), ("within", ())), True)


class Alike(unittest.TestCase):
    def test_just_where_within_tells_within_both_ways_about(self):
        chance = random.Random(226)
        found = {"alike": 0, "parts": 0}
        for many, most, number in (((24, 6, 4), 40, 2), ((6, 6, 1), 5, 6), ((3, 3, 2), 3, 20), ((2, 2, 1), 2, 20)):
            for book in fitted_books(227 + most, number, many, most):
                for other in near_books(chance, book, most):
                    words = [within(book, other)[0], within(other, book)[0]]
                    told = alike(book, other)
                    self.assertEqual(told[0], "alike" if words == ["within", "within"] else "parts")
                    self.assertTrue(is_alike(book, other, told))
                    self.assertIs(shows_alike(book, other, told), True)
                    self.assertIs(shows_alike(other, book, told), True)
                    self.assertEqual(alike(other, book)[0], told[0])
                    self.assertEqual(alike(other=other, one=book), told)
                    found[told[0]] += 1
        self.assertGreater(min(found.values()), 100)

    def test_a_book_is_alike_itself(self):
        chance = random.Random(228)
        for book in fitted_books(229, 40, (6, 4, 2), 4):
            for other in (book, Book(book.text), turned(chance, book)):
                self.assertEqual(alike(book, other), ("alike",))
                self.assertIs(shows_alike(book, other, ("alike",)), True)

    def test_values_near_to_right_ones(self):
        chance = random.Random(230)
        words = {True: 0, False: 0}
        for book in fitted_books(231, 20, (2, 2, 1), 2, (1, 2)):
            for other in near_books(chance, book, 2):
                values = bent(alike(book, other)) + [within(book, other), within(other, book), ("alike",), ("alike", ())]
                for value in values:
                    right = is_alike(book, other, value)
                    self.assertIs(shows_alike(book, other, value), right, (book.text, other.text, value))
                    words[right] += 1
        self.assertGreater(min(words.values()), 50)

    def test_shops_that_fit_just_one(self):
        fewer = BOOK.untold(2)
        fitting, loose, neither = Shop(BOOK, ((2, ((-1, 1), (0, 0))),)), Shop(BOOK, ()), Shop(BOOK, ((0, ((-1, 1), (0, 0))),))
        for shop, right in ((fitting, False), (loose, True), (neither, False)):
            self.assertIs(shows_alike(BOOK, fewer, ("parts", shop)), right)
            self.assertIs(shows_alike(fewer, BOOK, ("parts", shop)), right)
            self.assertIs(shows_within(fewer, BOOK, ("parts", shop)), right)
            self.assertIs(shows_within(BOOK, fewer, ("parts", shop)), False)
            self.assertIs(shows_alike(BOOK, BOOK, ("parts", shop)), False)

    def test_any_values(self):
        values = any_values() + ["alike", ["alike"], ("alike", None), ("alike", ()), ("parts",), ("parts", None), ("Alike",)]
        for other in (BOOK, BOOK.untold(2)):
            for value in values:
                self.assertIs(shows_alike(BOOK, other, value), is_alike(BOOK, other, value))


class Needless(unittest.TestCase):
    def test_just_the_facts_without_which_a_book_is_alike(self):
        sizes = set()
        kinds = set()
        for many, most, number in (((24, 6, 4), 40, 2), ((24, 6, 0), 5, 4), ((6, 6, 1), 5, 10), ((3, 3, 2), 2, 30)):
            for book in fitted_books(232 + most, number, many, most) + seen_books(232 + most, number // 2):
                told = needless(book)
                right = [number for number in range(len(book)) if alike(book, book.untold(number))[0] == "alike"]
                self.assertEqual(told, tuple(right))
                self.assertEqual(needless(book=book), told)
                sizes.add(len(book))
                kinds.update(((book.facts[at][0], at in told) for at in range(len(book))))
        self.assertEqual(len(kinds), 6)
        self.assertGreater(max(sizes), 20)

    def test_thirty_four_facts(self):
        lines = ["jobs a b"] + [f"let {number} 0 0 0" for number in range(24)]
        lines += [f"not {number} 0 0 0" for number in range(24, 30)]
        lines += [f"as 0 0 {number} 0 to 0 0 0 0" for number in range(1, 5)]
        book = Book("\n".join(lines))
        self.assertEqual((len(book), needless(book)), (34, tuple(range(23)) + tuple(range(25, 34))))

    def test_by_hand(self):
        for text, told in (
                ("jobs a", ()), ("jobs a\nlet 0 0", (0,)), ("jobs a\nlet 1 0\nlet 1 1", (1,)), ("jobs a\nnot 4 0\nnot 3 0", (0,)),
                ("jobs a\nas 1 0 to 0 0\nas 0 0 to 1 0", (0, 1)), ("jobs a\nas 1 0 to 0 0\nlet 1 0", (1,)),
                ("jobs a\nfree a\nlet 2 0\nlet 1 0", (1,)), ("jobs a\nfree a\nlet 2 0\nlet 3 0\nlet 1 0", (0, 2)),
                ("jobs a\nas 2 0 to 1 0\nas 1 0 to 0 0\nas 2 0 to 0 0", (0, 1, 2)),
                ("jobs a b\nlet 2 0 0 0\nlet 0 0 2 0\nlet 1 0 1 0\nnot 2 0 2 0\nnot 3 0 3 0", (2, 4))):
            self.assertEqual(needless(Book(text)), told, text)


class FollowsTellsNoMore(unittest.TestCase):
    def test_facts_that_are_always_or_never_so(self):
        chance = random.Random(233)
        kinds = {"let": 0, "not": 0}
        for book in fitted_books(234, 60, (5, 4, 1), 4) + seen_books(234, 40):
            for _ in range(4):
                standing = some_standing(chance, len(book.jobs), 5)
                word = judged(book, ("lets", standing))[0]
                for kind in ("let", "not"):
                    more = tell(book, (kind, standing))
                    if more is None or more == book or (word != "open" and {"always": "let", "never": "not"}[word] != kind):
                        continue
                    told = len(book) in needless(more)
                    self.assertIs(told, word != "open")
                    self.assertEqual(alike(book, more)[0], "parts" if word == "open" else "alike")
                    self.assertEqual(within(more, book)[0], "within")
                    kinds[kind] += told
        self.assertGreater(min(kinds.values()), 20)


class Wrong(unittest.TestCase):
    def calls(self, one, other):
        return (lambda: within(one, other), lambda: alike(one, other), lambda: shows_within(one, other, None),
                lambda: shows_alike(one, other, ("alike",)), lambda: shows_within(one, other, ("within", ())))

    def test_other_jobs(self):
        values = any_values() + list(OTHERS) + [BOOK.text, Shop(BOOK, ()), BOOK.jobs, nested(30), [BOOK], (BOOK,), BOOK.facts]
        values += [Book("jobs bob ann\nclean ann\nnot 0 0 0 0"), Book("jobs ann bob\nnot 0 0 0 0")]
        for one in (BOOK, NONE):
            for value in values:
                for call in self.calls(one, value):
                    with self.assertRaises(OtherJobs) as caught:
                        call()
                    self.assertIs(caught.exception.value, value)

    def test_manners_in_another_sequence_are_the_same(self):
        one, other = Book("jobs a b\nclean a\nspent b"), Book("jobs a b\nspent b\nclean a")
        self.assertEqual((within(one, other), alike(one, other)), (("within", ()), ("alike",)))

    def test_no_shop(self):
        also = Book("jobs ann bob\nclean ann\nlet 1 0 0 0\nnot 1 0 0 0")
        for one, other, due in ((NONE, BOOK, NONE), (BOOK, NONE, NONE), (NONE, also, NONE), (also, NONE, also), (NONE, NONE, NONE)):
            for call in self.calls(one, other):
                with self.assertRaises(NoShop) as caught:
                    call()
                self.assertIs(caught.exception.value, due)
        for book in (NONE, also):
            with self.assertRaises(NoShop) as caught:
                needless(book)
            self.assertIs(caught.exception.value, book)


if __name__ == "__main__":
    unittest.main()
