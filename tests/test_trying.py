import itertools
import random
import unittest

from tests.reading import (
    fits, fitted_books, is_int, keeps, manners_of, seen_books, small_stocks, some_book, some_claim, some_row)
from tests.values import any_values, bent, nested, spoiled
from unseenstocks.books import Book
from unseenstocks.days import standings
from unseenstocks.errors import BadClaim, BadOffers, NoShop
from unseenstocks.fitting import possible
from unseenstocks.judging import judged
from unseenstocks.shops import Shop
from unseenstocks.trying import shows_trials, trials

BOOK = Book("jobs ann bob\nclean ann\nlet 2 0 0 0\nlet 0 0 1 0\nnot 3 0 0 0")
NONE = Book("jobs ann bob\nnot 0 0 0 0")
BOTH = ("lets", ((1, 0), (1, 0)))
BEGIN, ANN = ("begin", "bob"), ("begin", "ann")
OFFERS = (((BEGIN, BEGIN), 2), ((BEGIN, ANN), 3))


def told_all(book, facts):
    for fact in facts:
        book = book.told(fact)
    return book


class Reading:
    """What the document tells of trees: what was seen is told to books, each way of trying gone through by itself."""

    def __init__(self, book, offers, claim):
        self.book, self.offers, self.claim = book, offers, claim

    def outcomes(self, book, number):
        passed = standings(book, self.offers[number][0])
        found = []
        for seen in range(len(passed) + 1):
            facts = [("let", standing) for standing in passed[:seen]]
            facts += [("not", standing) for standing in passed[seen:seen + 1]]
            told = told_all(book, facts)
            if possible(told)[0] == "shop":
                found.append((seen, told))
        return found

    def least(self, book=None, tried=()):
        """The least price of a tree, None if there is none."""
        book = book or self.book
        if judged(book, self.claim)[0] != "open":
            return 0
        best = None
        for number, (_, price) in enumerate(self.offers):
            if number not in tried:
                prices = [self.least(told, tried + (number,)) for _, told in self.outcomes(book, number)]
                if None not in prices and (best is None or price + max(prices) < best):
                    best = price + max(prices)
        return best

    def price(self, tree, book=None, tried=()):
        """The price of a tree, None if a value is no tree."""
        book = book or self.book
        if type(tree) is not tuple or not tree or type(tree[0]) is not str:
            return None
        if tree[0] == "known" and len(tree) == 2 and type(tree[1]) is str:
            return 0 if tree[1] != "open" and tree[1] == judged(book, self.claim)[0] else None
        if tree[0] != "try" or len(tree) != 3 or not is_int(tree[1]) or not 0 <= tree[1] < len(self.offers):
            return None
        if tree[1] in tried or type(tree[2]) is not tuple:
            return None
        outcomes, prices = self.outcomes(book, tree[1]), []
        if len(outcomes) != len(tree[2]):
            return None
        for (seen, told), row in zip(outcomes, tree[2]):
            if type(row) is not tuple or len(row) != 2 or not is_int(row[0]) or row[0] != seen:
                return None
            prices.append(self.price(row[1], told, tried + (tree[1],)))
        return None if None in prices else self.offers[tree[1]][1] + max(prices)

    def is_result(self, value, least):
        if type(value) is not tuple or least is None or len(value) != 2:
            return least is None and type(value) is tuple and value == ()
        return is_int(value[0]) and value[0] == least and self.price(value[1]) == least


def some_offers(chance, book, many):
    offers = []
    while len(offers) < many:
        row = some_row(chance, book.jobs, chance.randint(1, 3))
        if row not in [other for other, _ in offers]:
            offers.append((row, chance.randint(1, 9)))
    return tuple(offers)


def asked(seed, number):
    """Books with offers and claims, of few facts: so all that can be seen can be told to them."""
    chance = random.Random(seed)
    found = []
    for book in fitted_books(seed, number, (4, 2, 1), 2) + seen_books(seed, number, (1, 2, 3), 2):
        if len(book) < 16:
            found.append((book, some_offers(chance, book, chance.randint(1, 3)), some_claim(chance, book, 2)))
    return found


def laps_asked(seed, number):
    """Books with rows of some laps as claims, and with begins of these laps as offers: so several are to be tried."""
    chance = random.Random(seed)
    found = []
    for _ in range(number):
        book = some_book(chance, [chance.choice(("clean", "clean", "spent", "plain")) for _ in range(3)], (1, 0, 0), 2)
        offers, row = {}, ()
        for job in chance.sample(book.jobs, chance.randint(2, 3)):
            many = chance.randint(1, 2)
            offers[(("begin", job),) * many] = chance.randint(1, 9)
            row += (("begin", job),) * many + (("end", job),) * many
        found.append((book, tuple(offers.items()), ("goes", row)))
    return found


def longer(tree, offers, tried=()):
    """Trees that try one offer more at some place, all that can be seen then being as well known as it was."""
    if tree[0] == "known":
        for number, (row, _) in enumerate(offers):
            if number not in tried:
                seen = range(len(row) + 1)
                for size in range(1, len(row) + 2):
                    for some in itertools.combinations(seen, size):
                        yield ("try", number, tuple((at, tree) for at in some))
    else:
        for at, (seen, below) in enumerate(tree[2]):
            for other in longer(below, offers, tried + (tree[1],)):
                yield tree[:2] + (tree[2][:at] + ((seen, other),) + tree[2][at + 1:],)


class Example(unittest.TestCase):
    def test_example_of_the_document(self):
        self.assertEqual([trials(BOOK, OFFERS, BOTH)[0], trials(BOOK, OFFERS[:1], BOTH)], [3, ()])

    def test_tree_of_the_example(self):
        tree = ("try", 1, ((1, ("known", "never")), (2, ("known", "always"))))
        self.assertEqual(trials(BOOK, OFFERS, BOTH), (3, tree))
        self.assertIs(shows_trials(BOOK, OFFERS, BOTH, (3, tree)), True)


class Trials(unittest.TestCase):
    def test_beside_all_trees(self):
        found = {}
        for book, offers, claim in asked(260, 100) + laps_asked(260, 40):
            reading = Reading(book, offers, claim)
            least, told = reading.least(), trials(book, offers, claim)
            self.assertTrue(reading.is_result(told, least), (book.text, offers, claim, told, least))
            self.assertIs(shows_trials(book, offers, claim, told), True)
            self.assertEqual(trials(claim=claim, offers=offers, book=book), told)
            key = "none" if told == () else "known" if told[0] == 0 else depth(told[1])
            found[key] = found.get(key, 0) + 1
        self.assertEqual(set(found), {"none", "known", 1, 2, 3})
        self.assertGreater(min(found["none"], found["known"], found[1]), 20)

    def test_zero_just_where_the_claim_is_known_at_once(self):
        for book, offers, claim in asked(261, 60):
            word, told = judged(book, claim)[0], trials(book, offers, claim)
            if word == "open":
                self.assertTrue(told == () or told[0] >= min(price for _, price in offers))
            else:
                self.assertEqual(told, (0, ("known", word)))

    def test_followed_in_all_small_shops(self):
        ends = set()
        for book, offers, claim in asked(262, 60) + laps_asked(262, 10):
            told = trials(book, offers, claim)
            if told == ():
                continue
            wanted = (claim[1],) if claim[0] == "lets" else standings(book, claim[1])
            stocks = [stock for stock in small_stocks(manners_of(book), 2, 1) if keeps(stock, book.facts)]
            for chosen in itertools.islice(itertools.chain([()], zip(stocks), itertools.product(stocks, repeat=2)), 200):
                shop = Shop(book, chosen)
                if not fits(shop, book, manners_of(book), book.facts):
                    continue
                tree, spent = told[1], 0
                while tree[0] == "try":
                    row, price = offers[tree[1]]
                    stop = shop.stop(row)
                    spent += price
                    tree = dict(tree[2])[len(row) if stop is None else stop[0]]
                self.assertLessEqual(spent, told[0])
                self.assertEqual(tree[1], "always" if all(map(shop.lets, wanted)) else "never")
                ends.add((tree[1], spent > 0))
        self.assertEqual(len(ends), 4)

    def test_by_hand(self):
        book = Book("jobs a b\nspent a\nspent b")
        a, b, both = ((("begin", "a"),), 1), ((("begin", "b"),), 2), ((("begin", "a"), ("begin", "b")), 4)
        goes = ("goes", both[0])
        self.assertEqual(trials(book, (a, b), goes), ())
        self.assertEqual(trials(book, (a, b), ("lets", ((1, 1), (0, 0))))[0], 1)
        self.assertEqual(trials(book, (both,), goes)[0], 4)
        self.assertEqual(trials(book, (a, both), goes)[0], 4)
        self.assertEqual(trials(book, (a, b, both), ("lets", ((0, 0), (1, 0))))[0], 2)
        # One of two is told to be refused: to see that one is let tells of the other one.
        other = Book("jobs a b\nspent a\nspent b\nlet 1 0 0 0\nnot 2 0 1 0\nnot 3 0 0 0")
        one, two = ((("begin", "a"), ("begin", "a")), 5), ((("begin", "b"),), 3)
        dear = ((("begin", "a"), ("begin", "b"), ("begin", "b")), 9)
        self.assertEqual(trials(other, (one, two), ("lets", ((1, 0), (2, 0)))), ())
        self.assertEqual(trials(other, (one, two, dear), ("lets", ((1, 0), (2, 0))))[0], 9)
        self.assertEqual(trials(other, (one,), ("lets", ((2, 0), (0, 0))))[0], 5)

    def test_what_was_seen_first_makes_the_second_one_needless(self):
        # a is tried first: if it is let, nothing else is to be known.
        book = Book("jobs a b\nspent a\nspent b\nas 1 0 0 0 to 0 0 2 0")
        a, b = ((("begin", "a"),), 3), ((("begin", "b"),), 1)
        claim = ("lets", ((0, 0), (1, 0)))
        told = trials(book, (a, b), claim)
        self.assertEqual((told[0], told[1][1]), (1, 1))
        self.assertEqual(trials(book, (a,), claim), ())
        self.assertEqual(trials(book, (a, b), ("lets", ((1, 0), (1, 0)))), ())
        three = ("lets", ((1, 0), (0, 0)))
        self.assertEqual(trials(book, (a, b), three)[0], 3)
        self.assertEqual(trials(book, (((("begin", "b"), ("begin", "b")), 2), b), three)[0], 2)

    def test_facts_however_many(self):
        lines = ["jobs a b"] + [f"let {number} 0 0 0" for number in range(24)]
        lines += [f"not {number} 0 {number} 0" for number in range(30, 36)]
        lines += [f"as 0 0 {number} {number} to 0 0 0 0" for number in range(1, 5)]
        full = Book("\n".join(lines))
        few = Book("jobs a b\nlet 23 0 0 0\nnot 30 0 30 0\nas 0 0 1 1 to 0 0 0 0")
        begins = (("begin", "b"),) * 3
        for offers in (((begins, 4), (begins[:2], 1), (begins[:1], 1)), ((begins[:1] + (("begin", "a"),) * 2, 1),),
                       ((begins, 2),), ((begins[:2], 1), (begins[:1], 1))):
            for count in (1, 2, 3):
                claim = ("lets", ((0, 0), (count, 0)))
                told, right = trials(full, offers, claim), trials(few, offers, claim)
                self.assertEqual(told, right)
                self.assertTrue(Reading(few, offers, claim).is_result(told, Reading(few, offers, claim).least()))
                self.assertIs(shows_trials(full, offers, claim, right), True)
        self.assertEqual(trials(full, ((begins, 4), (begins[:2], 1), (begins[:1], 1)), ("lets", ((0, 0), (2, 0))))[0], 1)


def depth(tree):
    return 0 if tree[0] == "known" else 1 + max(depth(below) for _, below in tree[2])


class Shows(unittest.TestCase):
    def test_trees_that_try_what_is_of_no_use(self):
        words = {True: 0, False: 0}
        for book, offers, claim in asked(263, 30) + laps_asked(263, 24):
            reading = Reading(book, offers, claim)
            least, told = reading.least(), trials(book, offers, claim)
            if told == ():
                continue
            for tree in itertools.islice(longer(told[1], offers), 60):
                for value in ((told[0], tree), (reading.price(tree), tree)):
                    right = reading.is_result(value, least)
                    self.assertIs(shows_trials(book, offers, claim, value), right, (book.text, offers, claim, value))
                    words[right] += 1
        self.assertGreater(words[True], 5)
        self.assertGreater(words[False], 200)

    def test_a_way_that_is_not_the_dearest_by_hand(self):
        book = Book("jobs a b c\nclean a\nclean b\nclean c")
        offers = (((("begin", "a"),), 3), ((("begin", "b"),), 2), ((("begin", "c"),), 1))
        claim = ("goes", (("begin", "a"), ("end", "a"), ("begin", "b"), ("end", "b")))
        always, never = ("known", "always"), ("known", "never")
        self.assertEqual(trials(book, offers, claim)[0], 5)
        self.assertEqual(trials(book, offers[:1] + offers[2:], claim), ())

        def tree(refused, then):
            return ("try", 0, ((0, refused), (1, ("try", 1, ((0, never), (1, then))))))

        for price, value, right in (
                (5, tree(never, always), True), (5, tree(("try", 1, ((0, never), (1, never))), always), True),
                (5, tree(("try", 2, ((0, never), (1, never))), always), True),
                (5, tree(("try", 2, ((0, never),)), always), False),
                (5, tree(("try", 2, ((0, never), (1, always))), always), False),
                (5, tree(("try", 0, ((0, never),)), always), False), (5, tree(always, always), False),
                (3, tree(never, always), False), (6, tree(never, always), False),
                (5, tree(never, ("try", 2, ((0, always), (1, always)))), False),
                (6, tree(never, ("try", 2, ((0, always), (1, always)))), False),
                (5, tree(("try", 2, ((0, never), (1, ("try", 1, ((0, never), (1, never)))))), always), False),
                (5, tree(("try", 2, ((0, never), (1, ("try", 2, ((0, never), (1, never)))))), always), False),
                (5, tree(("try", 2, ((0, never), (1, ("try", 2, ((1, never),))))), always), False),
                (5, ("try", 0, ((0, ("try", 1, ((0, never), (1, never)))), (1, ("known", "open")))), False),
                (5, ("try", 0, ((0, ("try", 1, ((0, never), (1, never)))), (1, always))), False),
                (5, ("try", 1, ((0, ("try", 0, ((0, never), (1, never)))), (1, tree(never, never)))), False),
                (5, ("try", 1, ((0, ("try", 0, ((0, never), (1, never)))), (1, ("try", 0, ((0, never), (1, always)))))), True)):
            self.assertIs(shows_trials(book, offers, claim, (price, value)), right, (price, value))

    def test_in_whatever_sequence_offers_are_tried(self):
        book = Book("jobs a b c\nclean a\nclean b\nclean c")
        offers = tuple(((("begin", job),), price) for job, price in (("a", 1), ("b", 4), ("c", 9)))
        claim = ("goes", tuple((word, job) for job in "abc" for word in ("begin", "end")))
        never = ("known", "never")
        for order in itertools.permutations(range(3)):
            tree = ("known", "always")
            for number in order:
                tree = ("try", number, ((0, never), (1, tree)))
            self.assertIs(shows_trials(book, offers, claim, (14, tree)), True)
        self.assertEqual(trials(book, offers, claim)[0], 14)
        self.assertEqual(trials(book, offers[:2], claim), ())

    def test_values_near_to_right_ones(self):
        words = {True: 0, False: 0}
        for book, offers, claim in asked(264, 16) + laps_asked(264, 2):
            reading = Reading(book, offers, claim)
            least, told = reading.least(), trials(book, offers, claim)
            values = bent(told) + [(), (0, ("known", "always")), (0, ("known", "never")), (0, ("known", "open"))]
            if told != ():
                values += [(told[0] + more, told[1]) for more in (-1, 1)] + [[told[0], told[1]], told[1], (told[1], told[0])]
            for value in values:
                right = reading.is_result(value, least)
                self.assertIs(shows_trials(book, offers, claim, value), right, (book.text, offers, claim, value))
                words[right] += 1
        self.assertGreater(min(words.values()), 50)

    def test_dearer_trees_are_none(self):
        for book, offers, claim in asked(265, 80) + laps_asked(265, 20):
            told = trials(book, offers, claim)
            for number in range(len(offers)):
                reading = Reading(book, offers[number:number + 1], claim)
                least = reading.least()
                if least is not None and least > 0:
                    tree = trials(book, offers[number:number + 1], claim)[1]
                    value = (least, ("try", number, tree[2]))
                    self.assertIs(shows_trials(book, offers, claim, value), least == told[0])

    def test_any_values(self):
        values = any_values() + [(3,), (3, ()), (3, ("try",)), (3, ("try", 1, ())), (3, ("known", "always")), (3, nested(29))]
        values += [(3, ("try", True, ((1, ("known", "never")), (2, ("known", "always"))))), (3, ("try", 1, nested(28)))]
        values += [(3, ("try", 1, ((True, ("known", "never")), (2, ("known", "always"))))), "known", ("known", "always")]
        for value in values:
            self.assertIs(shows_trials(BOOK, OFFERS, BOTH, value), False)
            self.assertIs(shows_trials(BOOK, OFFERS[:1], BOTH, value), False)
            self.assertIs(shows_trials(BOOK, OFFERS, ("goes", ()), value), False)
        self.assertIs(shows_trials(BOOK, OFFERS[:1], BOTH, ()), True)
        self.assertIs(shows_trials(BOOK, OFFERS, BOTH, ()), False)
        self.assertIs(shows_trials(BOOK, OFFERS[:1], BOTH, []), False)
        self.assertIs(shows_trials(BOOK, OFFERS, ("goes", ()), (0, ("known", "always"))), True)
        self.assertIs(shows_trials(BOOK, OFFERS, ("goes", ()), (False, ("known", "always"))), False)


class Wrong(unittest.TestCase):
    def calls(self, book, offers, claim):
        return (lambda: trials(book, offers, claim), lambda: shows_trials(book, offers, claim, None),
                lambda: shows_trials(book, offers, claim, ()))

    def wrong_offers(self):
        row = (BEGIN, ANN)
        wrong = any_values() + [()] + [value for value in spoiled(OFFERS)]
        wrong += [((row, 0),), ((row, 10),), ((row, True),), ((row, "1"),), (((), 1),), ((row * 2, 1),), ((row, 1), (row, 2))]
        wrong += [((row, 1), (row[:1], 1), (row[::-1], 1), (row[1:], 1)), [(row, 1)], ([row, 1],), ((list(row), 1),)]
        wrong += [(((("end", "ann"),), 1),), ((("begin", "ann"), 1),), (((("begin", "cat"),), 1),), ((row,),), ((row, 1, 1),)]
        return wrong + [((1, row),), (row, 1), {row: 1}, nested(30), ((row, -1),), ((row, 10 ** 14),), ((nested(28), 1),)]

    def test_no_offers(self):
        for book in (BOOK, NONE):
            for value in self.wrong_offers():
                for claim in (BOTH, None, ("lets", ())):
                    for call in self.calls(book, value, claim):
                        with self.assertRaises(BadOffers) as caught:
                            call()
                        self.assertIs(caught.exception.value, value)

    def test_no_claim(self):
        for book in (BOOK, NONE):
            for value in any_values() + spoiled(BOTH) + [("goes", (("end", "ann"),)), ("lets", ((0, 0),)), ("goes", [ANN])]:
                for call in self.calls(book, OFFERS, value):
                    with self.assertRaises(BadClaim) as caught:
                        call()
                    self.assertIs(caught.exception.value, value)

    def test_no_shop(self):
        for book in (NONE, Book("jobs ann bob\nlet 2 0 0 0\nnot 1 0 0 0")):
            for call in self.calls(book, OFFERS, BOTH):
                with self.assertRaises(NoShop) as caught:
                    call()
                self.assertIs(caught.exception.value, book)

    def test_limits_of_offers(self):
        rows = ((ANN,), (ANN, BEGIN), (ANN, ("end", "ann"), ANN))
        for many in (1, 2, 3):
            for chosen in itertools.permutations(rows, many):
                for price in (1, 9):
                    told = trials(BOOK, tuple((row, price) for row in chosen), ("lets", ((2, 0), (0, 0))))
                    self.assertEqual(told, (0, ("known", "always")))


if __name__ == "__main__":
    unittest.main()
