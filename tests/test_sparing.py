import random
import unittest

from tests.reading import fitted_books, keeps, level, manners_of, small_stocks, some_standing
from tests.values import any_values, spoiled
from unseenstocks.books import Book
from unseenstocks.errors import BadStanding, NoJob, NoShop, NotSure
from unseenstocks.judging import follows, judged
from unseenstocks.mixing import sure
from unseenstocks.sparing import spare

BOOK = Book("jobs ann bob\nclean ann\nlet 2 0 0 0\nlet 0 0 1 0\nnot 3 0 0 0")
NONE = Book("jobs ann bob\nnot 0 0 0 0")
FIRST = ((0, 0), (0, 0))


def begun_more(standing, at, many):
    return standing[:at] + ((standing[at][0] + many, standing[at][1]),) + standing[at + 1:]


def begin_by_begin(book, standing, job):
    """Both numbers, each begin asked for by itself, and in some shop that lets all those ahead."""
    at = book.jobs.index(job)
    most = 40 - standing[at][0]
    surely = perhaps = 0
    while surely < most and sure(book, begun_more(standing, at, surely + 1))[0] == "sure":
        surely += 1
    while perhaps < most:
        more = ("lets", begun_more(standing, at, perhaps + 1))
        if judged(book, more)[0] == "never":
            break
        if perhaps:
            assert follows(book, more, ("lets", begun_more(standing, at, perhaps)))[0] == "always"
        perhaps += 1
    return (surely, perhaps)


class Spare(unittest.TestCase):
    def test_example_of_the_document(self):
        self.assertEqual(
            [spare(BOOK, FIRST, "ann"), spare(BOOK, ((9, 7), (0, 0)), "ann"), spare(BOOK, ((0, 0), (1, 0)), "bob")],
            [(2, 2), (0, 0), (0, 39)])

    def test_begin_by_begin(self):
        chance = random.Random(150)
        found = set()
        for many, most, number in (((6, 6, 1), 40, 25), ((4, 6, 0), 6, 40), ((5, 2, 2), 12, 30), ((24, 6, 1), 40, 6)):
            for book in fitted_books(151 + most + many[0], number, many, most):
                places = [book.first] + [fact[1] for fact in book.facts if fact[0] == "let"][:2]
                places.append(some_standing(chance, len(book.jobs), most))
                for standing in places:
                    if sure(book, standing)[0] != "sure":
                        continue
                    job = chance.choice(book.jobs)
                    told = spare(book, standing, job)
                    self.assertEqual(told, begin_by_begin(book, standing, job), (book.text, standing, job))
                    self.assertEqual(spare(job=job, book=book, standing=standing), told)
                    found.add((told[0] > 0, told[1] > told[0], told[1] == 40))
        self.assertGreaterEqual(len(found), 5)

    def test_by_hand(self):
        book = Book("jobs a b\nlet 7 2 0 0\nlet 0 0 9 0\nnot 0 0 12 0\nnot 11 0 0 0")
        self.assertEqual(spare(book, FIRST, "a"), (0, 10))
        self.assertEqual(spare(book, ((2, 2), (0, 0)), "a"), (5, 38))
        self.assertEqual(spare(book, ((0, 0), (3, 3)), "b"), (6, 37))
        self.assertEqual(spare(book, FIRST, "b"), (9, 11))
        self.assertEqual(spare(book, ((7, 7), (0, 0)), "b"), (0, 40))

    def test_no_more_than_forty_in_all(self):
        for manner in ("plain", "clean", "spent", "free"):
            book = Book("\n".join(["jobs a"] + [f"{manner} a"] * (manner != "plain") + ["let 40 0"]))
            for begun in (0, 1, 39, 40):
                self.assertEqual(spare(book, ((begun, 0),), "a"), (40 - begun, 40 - begun))
        self.assertEqual(spare(Book("jobs a"), ((0, 0),), "a"), (0, 40))

    def test_free_jobs_can_stop_one_begin_and_let_none_behind(self):
        book = Book("jobs a\nfree a\nlet 3 1\nnot 9 1")
        self.assertEqual(spare(book, ((3, 1),), "a"), (0, 5))
        self.assertEqual(spare(book, ((0, 0),), "a"), (0, 40))

    def test_beside_all_small_shops(self):
        for book in fitted_books(152, 40, (3, 2, 0), 3, (1, 2)):
            stocks = [stock for stock in small_stocks(manners_of(book), 4, 2) if keeps(stock, book.facts)]
            refused = [fact[1] for fact in book.facts if fact[0] == "not"]
            for at, job in enumerate(book.jobs):
                surely, perhaps = spare(book, book.first, job)
                for many in range(1, 8):
                    steps = [begun_more(book.first, at, step) for step in range(1, many + 1)]
                    if many <= surely:
                        self.assertTrue(all(level(stock, step) >= 0 for stock in stocks for step in steps))
                    letting = [stock for stock in stocks if all(level(stock, step) >= 0 for step in steps)]
                    if all(any(level(stock, one) < 0 for stock in letting) for one in refused):
                        self.assertLessEqual(many, perhaps)


class Wrong(unittest.TestCase):
    def check(self, error, call, value):
        with self.assertRaises(error) as caught:
            call()
        self.assertIs(caught.exception.value, value)

    def test_no_standing(self):
        for book in (BOOK, NONE):
            for value in any_values() + spoiled(((2, 1), (1, 0))) + [((41, 0), (0, 0)), ((0, 1), (0, 0))]:
                if type(value) is not tuple or value != FIRST:
                    self.check(BadStanding, lambda: spare(book, value, "ann"), value)
                    self.check(BadStanding, lambda: spare(book, value, None), value)

    def test_no_job(self):
        for book in (BOOK, NONE):
            for value in any_values() + ["cat", "Ann", "an", "ann ", ("ann",), ["ann"], 0]:
                self.check(NoJob, lambda: spare(book, FIRST, value), value)
                self.check(NoJob, lambda: spare(book, ((9, 0), (9, 0)), value), value)

    def test_no_shop(self):
        for standing in (FIRST, ((1, 0), (0, 0))):
            self.check(NoShop, lambda: spare(NONE, standing, "ann"), NONE)

    def test_not_sure(self):
        for standing in (((3, 0), (0, 0)), ((1, 0), (1, 0)), ((0, 0), (2, 2)), ((40, 0), (40, 0))):
            self.check(NotSure, lambda: spare(BOOK, standing, "ann"), standing)
            self.check(NotSure, lambda: spare(BOOK, standing, "bob"), standing)


if __name__ == "__main__":
    unittest.main()
