"""What is so of all functions: where no shop fits, by other names and in other sequences, asked again and in turn."""

import copy
import random
import unittest

from tests.calls import FITTED, SHOWS, some_calls
from tests.leading import lead, led, raised, some_deed
from tests.reading import fitted_books, is_barred, manners_of, seen_books, some_books
from unseenstocks.benches import Bench
from unseenstocks.books import Book
from unseenstocks.comparing import alike, needless, within
from unseenstocks.desk import Desk
from unseenstocks.errors import BadJournal, NoShop, NotSure, StockError
from unseenstocks.explaining import bars, fewest, together
from unseenstocks.fitting import possible
from unseenstocks.hanging import hangs
from unseenstocks.journals import journal, read_journal
from unseenstocks.lasting import lasting
from unseenstocks.mixing import sure
from unseenstocks.planning import plan
from unseenstocks.shops import Shop
from unseenstocks.sparing import spare
from unseenstocks.trying import trials

NONE = Book("jobs a b\nlet 2 0 0 0\nnot 1 0 0 0")
ALSO = Book("jobs a b\nnot 0 0 0 0\nlet 1 0 0 0")
BEGIN_A = (("begin", "a"),)
GOOD = {
    "judged": (("goes", ()),), "follows": (("goes", ()), ("goes", ())), "spare": (((0, 0), (0, 0)), "a"),
    "lasting": (BEGIN_A + (("end", "a"),),), "fewest": (), "hangs": (BEGIN_A,), "needless": (), "plan": ((("a", 1),),),
    "trials": (((BEGIN_A, 1),), ("goes", ()))}


def outcome(call, *arguments, **named):
    """What a call returns, or the class and the value of what it raises."""
    try:
        return ("told", call(*arguments, **named))
    except StockError as error:
        return (type(error).__name__, error.value)


class NoShopFits(unittest.TestCase):
    def test_just_where_a_fact_not_is_barred(self):
        chance = random.Random(310)
        found = {True: 0, False: 0}
        for book in some_books(311, 60, (4, 4, 1), 3):
            told = possible(book)
            if told[0] == "barred":
                self.assertTrue(is_barred(manners_of(book), book.facts, *told[1:]))
            barred = any(sure(book, fact[1])[0] == "sure" for fact in book.facts if fact[0] == "not")
            self.assertEqual(told[0], "barred" if barred else "shop")
            found[barred] += 1
            empty = book
            while len(empty):
                empty = empty.untold(0)
            for call, arguments, named in some_calls(chance, book) + [(within, (empty,), {}), (alike, (empty,), {})]:
                kind, value = outcome(call, book, *arguments, **named)
                due = [one for one in (book,) + arguments if isinstance(one, Book) and possible(one)[0] == "barred"]
                if call in FITTED and due:
                    self.assertEqual(kind, "NoShop", (book.text, call))
                    self.assertIs(value, due[0])
                else:
                    self.assertEqual(kind, "told", (book.text, call))
            kind, value = outcome(Bench, book)
            self.assertEqual(kind, "NoShop" if barred else "told")
            self.assertTrue(value is book or not barred)
            kind, value = outcome(read_journal, book.text + "\nseen")
            self.assertEqual((kind, value) if barred else kind, ("BadJournal", len(book.text.split("\n")) + 1) if barred else "told")
        self.assertGreater(min(found.values()), 10)

    def test_shows_raise_it_likewise(self):
        for call in FITTED:
            if call in SHOWS and call not in (within, alike):
                for book in (NONE, ALSO):
                    for value in (None, (), ("open",), NONE):
                        self.assertEqual(outcome(SHOWS[call], book, *GOOD[call.__name__], value), ("NoShop", book))

    def test_what_is_listed_ahead_comes_first(self):
        wrong = {"judged": ("BadClaim", 0), "spare": ("BadStanding", 0), "lasting": ("BadLap", 0), "hangs": ("BadEvents", 0),
                 "plan": ("BadTasks", 0), "trials": ("BadOffers", 0), "follows": ("BadClaim", 0)}
        for call in FITTED:
            if call.__name__ in GOOD:
                good = GOOD[call.__name__]
                self.assertEqual(outcome(call, NONE, *good), ("NoShop", NONE))
                for at in range(len(good)):
                    told = outcome(call, NONE, *good[:at], None, *good[at + 1:])
                    kind = wrong[call.__name__][0] if at == 0 or call.__name__ == "follows" else None
                    self.assertEqual(told, (kind or {"spare": "NoJob", "trials": "BadClaim"}[call.__name__], None))
                if good:
                    self.assertEqual(outcome(call, NONE, *[None] * len(good)), (wrong[call.__name__][0], None))

    def test_of_two_books_the_first_one_then_the_other_one(self):
        fitting = Book("jobs a b")
        for call in (within, alike, SHOWS[within], SHOWS[alike]):
            more = (None,) if call in (SHOWS[within], SHOWS[alike]) else ()
            for one, other, due in ((NONE, fitting, NONE), (fitting, NONE, NONE), (NONE, ALSO, NONE), (ALSO, NONE, ALSO)):
                kind, value = outcome(call, one, other, *more)
                self.assertEqual(kind, "NoShop")
                self.assertIs(value, due)
            for other in (Book("jobs b a\nnot 0 0 0 0"), None):
                self.assertEqual(outcome(call, NONE, other, *more), ("OtherJobs", other))

    def test_no_shop_comes_ahead_of_not_sure(self):
        self.assertEqual(outcome(spare, NONE, ((9, 0), (9, 0)), "b"), ("NoShop", NONE))
        self.assertEqual(outcome(spare, Book("jobs a"), ((1, 0),), "a"), ("NotSure", ((1, 0),)))
        self.assertTrue(issubclass(NotSure, StockError) and issubclass(NoShop, StockError))

    def test_lots_and_mixtures_are_told_of_such_books_too(self):
        for book in (NONE, ALSO):
            number = [fact[0] for fact in book.facts].index("not")
            self.assertEqual(together(book, (number,))[0], "apart")
            self.assertEqual((bars(book), possible(book)[:2]), (((number,),), ("barred", number)))
            self.assertEqual(sure(book, book.first)[0], "sure")


class Turned:
    """A book by other names, with its jobs and facts in other sequences."""

    def __init__(self, chance, book):
        self.book = book
        self.order = chance.sample(range(len(book.jobs)), len(book.jobs))
        names = chance.sample(("x", "jobs", "let", "zebra", "b", "begin"), len(book.jobs))
        self.names = {book.jobs[old]: names[at] for at, old in enumerate(self.order)}
        lines = ["jobs " + " ".join(names)]
        manners = [f"{book.manner(job)} {self.names[job]}" for job in book.jobs if book.manner(job) != "plain"]
        self.sequence = chance.sample(range(len(book)), len(book))
        self.other = Book("\n".join(lines + chance.sample(manners, len(manners))))
        for old in self.sequence:
            self.other = self.other.told(self.fact(book.facts[old]))

    def fact(self, fact):
        return fact[:1] + tuple(self.turn(standing) for standing in fact[1:])

    def turn(self, by_job):
        return tuple(by_job[old] for old in self.order)

    def number(self, old):
        return self.sequence.index(old)

    def row(self, row):
        return tuple((word, self.names[job]) for word, job in row)

    def claim(self, claim):
        return (claim[0], self.turn(claim[1]) if claim[0] == "lets" else self.row(claim[1]))

    def argument(self, call, at, value):
        """The argument that asks the same of the other book."""
        if isinstance(value, Book):
            missing = [fact for fact in self.book.facts if fact not in value.facts]
            for fact in missing:
                return self.other.untold(self.other.facts.index(self.fact(fact)))
        if call in (sure, spare) and at == 0:
            return self.turn(value)
        if call == spare:
            return self.names[value]
        if call in (lasting, hangs):
            return self.row(value)
        if call == together:
            return tuple(sorted(self.number(old) for old in value))
        if call == plan:
            return tuple((self.names[job], ticks) for job, ticks in value)
        if call == trials and at == 0:
            return tuple((self.row(row), price) for row, price in value)
        return self.claim(value)

    def stock(self, stock):
        return (stock[0], self.turn(stock[1]))

    def mixture(self, mixture, behind=0):
        """A mixture, of facts behind those of the book too: these stand where they stood."""
        def numbered(parts):
            return tuple(sorted((self.number(old) if old < len(self.book) else old, times) for old, times in parts))
        if len(mixture) == 3 and isinstance(mixture[0], tuple):
            return (tuple(sorted((self.number(old), share) for old, share in mixture[0])),) + tuple(map(numbered, mixture[1:]))
        return (mixture[0],) + tuple(map(numbered, mixture[1:]))

    def told(self, call, value):
        """A result as it is of the other book."""
        if isinstance(value, Shop):
            return Shop(self.other, tuple(self.stock(stock) for stock in value.stocks))
        if call in (plan, trials):
            return value
        if call in (bars, needless):
            if call == bars:
                return tuple(sorted(tuple(sorted(self.number(old) for old in lot)) for lot in value))
            return tuple(sorted(self.number(old) for old in value))
        if not isinstance(value, tuple) or value[0] in ("alike", "within"):
            return value
        if value[0] in ("barred", "never", "bars"):
            return (value[0], self.number(value[1]), self.mixture(value[2]))
        if value[0] == "always" and call == hangs:
            return (value[0], self.number(value[1]), tuple(map(self.mixture, value[2])))
        if value[0] == "always":
            return (value[0], tuple(map(self.mixture, value[1])))
        if value[0] == "ever":
            return (value[0], tuple(map(self.mixture, value[1])), self.mixture(value[2]))
        if value[0] == "until":
            mixtures = tuple(tuple(map(self.mixture, some)) for some in value[2])
            return value[:2] + (mixtures, value[3], self.stock(value[4]))
        if value[0] == "stock":
            return (value[0], self.stock(value[1]))
        if value[0] in ("sure", "apart"):
            return (value[0], self.mixture(value[1]))
        return tuple(self.told(call, part) if isinstance(part, Shop) else part for part in value)


def gist(call, told):
    """Of a result what hangs on no names and sequence, but for numbers of facts."""
    if call in (spare, bars, needless):
        return told
    if call in (plan, trials, fewest):
        return told[:1]
    if call == lasting and told[0] == "until":
        return told[:2]
    return told[0]


class NamesAndSequence(unittest.TestCase):
    def test_the_same_is_told_and_shown(self):
        chance = random.Random(312)
        asked = {}
        for book in fitted_books(313, 60, (4, 3, 1), 3) + seen_books(313, 60) + some_books(314, 20, (4, 4, 0), 3):
            turned = Turned(chance, book)
            for call, arguments, named in some_calls(chance, book):
                others = [turned.argument(call, at, value) for at, value in enumerate(arguments)]
                told, then = outcome(call, book, *arguments, **named), outcome(call, turned.other, *others, **named)
                self.assertEqual(told[0], then[0])
                if told[0] != "told":
                    continue
                key = (call.__name__, told[1][0] if told[1] and isinstance(told[1][0], str) else None)
                asked[key] = asked.get(key, 0) + 1
                led_there = turned.told(call, told[1])
                self.assertEqual(gist(call, led_there), gist(call, then[1]), (book.text, turned.other.text, call, arguments))
                if call in SHOWS and call != within:
                    self.assertIs(SHOWS[call](turned.other, *others, led_there, **named), True, (call, told, led_there))
        self.assertGreater(len(asked), 24)

    def test_benches(self):
        chance = random.Random(315)
        words = set()
        for book in fitted_books(316, 30, (3, 2, 1), 3):
            turned = Turned(chance, book)
            bench, other = Bench(book), Bench(turned.other)
            for _ in range(12):
                deed = some_deed(chance, bench.book, bench.row)
                if deed[0] in ("let", "refuse") and deed[1][1] != "cat":
                    there = (deed[0],) + turned.row(deed[1:])
                else:
                    there = deed
                one, two = raised(lambda: lead(bench, deed)), raised(lambda: lead(other, there))
                self.assertIs(one.__class__, two.__class__)
                self.assertEqual((turned.row(bench.row), bench.done), (other.row, other.done))
                coming = {turned.row((event,))[0]: word for event, word in bench.coming()}
                self.assertEqual(coming, dict(other.coming()))
                words.update(coming.values())
        self.assertEqual(len(words), 3)


class AskedAgain(unittest.TestCase):
    def test_equal_calls_in_turn(self):
        chance = random.Random(317)
        asked = []
        for book in some_books(318, 30, (4, 3, 1), 3) + seen_books(318, 10):
            asked += [(book, call) for call in some_calls(chance, book)]
        first = [outcome(call, book, *arguments, **named) for book, (call, arguments, named) in asked]
        for at in chance.sample(range(len(asked)), len(asked)):
            book, (call, arguments, named) = asked[at]
            apart = Book(book.text)
            for one in (book, apart):
                told = outcome(call, one, *copy.deepcopy(arguments), **named)
                self.assertEqual(told, first[at])
                if told[0] == "told" and call in SHOWS:
                    self.assertIs(SHOWS[call](one, *arguments, told[1], **named), True)
        self.assertGreater(len({told[0] for told in first}), 1)

    def test_arguments_are_not_changed(self):
        chance = random.Random(319)
        for book in some_books(320, 20, (4, 3, 1), 3):
            for call, arguments, named in some_calls(chance, book):
                before = (book.text, book.facts, book.jobs, copy.deepcopy(arguments))
                told = outcome(call, book, *arguments, **named)
                value = copy.deepcopy(told[1])
                if call in SHOWS:
                    outcome(SHOWS[call], book, *arguments, told[1], **named)
                    for other in ([told[1]], {"a": [1]}, [[]]):
                        kept = copy.deepcopy(other)
                        self.assertIn(outcome(SHOWS[call], book, *arguments, other, **named), ((told[0], told[1]), ("told", False)))
                        self.assertEqual(other, kept)
                self.assertEqual((book.text, book.facts, book.jobs, arguments), before)
                self.assertEqual(told[1], value)

    def test_refused_again(self):
        wrong = [["a"], ("lets", ()), (), None, {"a": 1}, 5, "x"]
        for call in FITTED:
            if call.__name__ in GOOD and GOOD[call.__name__]:
                for value in wrong:
                    kept = copy.deepcopy(value)
                    first = outcome(call, NONE, value, *GOOD[call.__name__][1:])
                    needless(Book("jobs a\nlet 1 0"))
                    second = outcome(call, NONE, value, *GOOD[call.__name__][1:])
                    self.assertEqual(first, second)
                    self.assertIs(first[1], value)
                    self.assertEqual(value, kept)

    def test_benches_and_desks(self):
        chance = random.Random(321)
        for book in fitted_books(322, 15, (3, 2, 1), 3):
            bench, _ = led(chance, book, 12)
            text = journal(bench)
            self.assertEqual(text, journal(bench))
            self.assertTrue(read_journal(text) == read_journal(text) == bench)
            self.assertEqual(bench.coming(), bench.coming())
            desk, other = Desk(text), Desk(text)
            for line in ("stocks", "bars", "may begin a", "spare a", "begin a", "begin a", "undo", "stocks", "bars"):
                self.assertEqual(outcome(desk.say, line), outcome(other.say, line))
            self.assertTrue(desk.bench == other.bench)
            self.assertEqual(journal(bench), text)

    def test_what_was_told_is_shown_of_books_made_apart(self):
        book = Book("jobs a b\nlet 1 0 0 0\nlet 0 0 1 0\nnot 1 0 1 0")
        other = Book("jobs a b").told(book.facts[0]).told(book.facts[1]).told(book.facts[2])
        events = (("begin", "a"), ("begin", "b"))
        self.assertIs(SHOWS[hangs](other, events, hangs(book, events)), True)
        self.assertIs(SHOWS[fewest](other, fewest(book)), True)
        self.assertEqual((alike(book, other), within(book, other)), (("alike",), within(other, book)))
        for text in ("jobs a", 5):
            with self.assertRaises(BadJournal):
                read_journal(text)


if __name__ == "__main__":
    unittest.main()
