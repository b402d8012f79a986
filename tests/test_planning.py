import itertools
import random
import unittest

from tests.reading import fits, fitted_books, is_int, keeps, manners_of, seen_books, small_stocks
from tests.values import any_values, bent, nested, spoiled
from unseenstocks.books import Book
from unseenstocks.errors import BadTasks, NoShop
from unseenstocks.judging import judged
from unseenstocks.planning import plan, shows_plan
from unseenstocks.shops import Shop

BOOK = Book("jobs ann bob\nclean ann\nlet 2 0 0 0\nlet 0 0 1 0\nnot 3 0 0 0")
NONE = Book("jobs ann bob\nnot 0 0 0 0")
TASKS = (("ann", 2), ("bob", 1), ("ann", 1), ("ann", 1))


def row_of(tasks, starts):
    row = []
    for tick in range(max(start + ticks for (_, ticks), start in zip(tasks, starts)) + 1):
        row += [("end", job) for (job, ticks), start in zip(tasks, starts) if start + ticks == tick]
        row += [("begin", job) for (job, _), start in zip(tasks, starts) if start == tick]
    return tuple(row)


class Brute:
    """All starts of some tasks gone through one by one, each row judged."""

    def __init__(self, book, tasks, every):
        self.book, self.tasks, self.every, self.words = book, tasks, every, {}
        self.total = sum(ticks for _, ticks in tasks)
        spans = [range(self.total - ticks + 1) for _, ticks in tasks]
        ends = [self.end(starts) for starts in itertools.product(*spans) if self.goes(starts)]
        self.least = min(ends, default=None)

    def end(self, starts):
        return max(start + ticks for (_, ticks), start in zip(self.tasks, starts))

    def goes(self, starts):
        row = row_of(self.tasks, starts)
        if row not in self.words:
            self.words[row] = judged(self.book, ("goes", row))[0]
        return self.words[row] == "always" or (not self.every and self.words[row] == "open")

    def is_result(self, value):
        if type(value) is not tuple:
            return False
        if self.least is None or len(value) != 2:
            return self.least is None and value == ()
        end, starts = value
        if not is_int(end) or end != self.least or type(starts) is not tuple or len(starts) != len(self.tasks):
            return False
        if not all(is_int(start) and start >= 0 for start in starts) or self.end(starts) != end:
            return False
        return self.goes(starts)


def some_tasks(chance, book, many, most):
    return tuple((chance.choice(book.jobs), chance.randint(1, most)) for _ in range(many))


class Example(unittest.TestCase):
    def test_example_of_the_document(self):
        self.assertEqual(
            [plan(BOOK, TASKS)[0], plan(BOOK, TASKS, every=False)[0], plan(BOOK, (("bob", 1), ("bob", 1)))], [3, 2, ()])


class Plan(unittest.TestCase):
    def test_beside_all_starts(self):
        chance = random.Random(240)
        found = {}
        for many, most, number in ((1, 4, 20), (2, 4, 30), (3, 3, 12), (4, 1, 16), (4, 2, 4)):
            for book in fitted_books(241 + many, number, (6, 4, 1), 3) + seen_books(241 + many, number):
                tasks = some_tasks(chance, book, many, most)
                for every in (True, False):
                    brute = Brute(book, tasks, every)
                    told = plan(book, tasks, every=every)
                    self.assertTrue(brute.is_result(told), (book.text, tasks, every, told))
                    self.assertIs(shows_plan(book, tasks, told, every=every), True)
                    self.assertEqual(plan(every=every, tasks=tasks, book=book), told)
                    late = told != () and told[0] > max(ticks for _, ticks in tasks)
                    found[every, told == (), late] = found.get((every, told == (), late), 0) + 1
        self.assertEqual(len(found), 6)
        self.assertGreater(min(found.values()), 5)

    def test_beside_all_small_shops(self):
        chance = random.Random(242)
        sooner = 0
        for book in fitted_books(243, 20, (3, 1, 0), 3, (1, 2)):
            tasks = some_tasks(chance, book, 3, 2)
            stocks = [stock for stock in small_stocks(manners_of(book), 2, 1) if keeps(stock, book.facts)]
            surely, perhaps = plan(book, tasks), plan(book, tasks, every=False)
            for chosen in itertools.islice(itertools.product(stocks, repeat=2), 80):
                shop = Shop(book, chosen)
                if not fits(shop, book, manners_of(book), book.facts):
                    continue
                if surely != ():
                    self.assertIsNone(shop.stop(row_of(tasks, surely[1])))
                spans = [range(5) for _ in tasks]
                ends = [max(start + ticks for (_, ticks), start in zip(tasks, starts))
                        for starts in itertools.product(*spans) if shop.stop(row_of(tasks, starts)) is None]
                if ends:
                    self.assertLessEqual(perhaps[0], min(ends))
                    sooner += surely == () or perhaps[0] < surely[0]
        self.assertGreater(sooner, 100)

    def test_what_is_shown_of_a_row(self):
        chance = random.Random(244)
        for book in fitted_books(245, 24, (6, 4, 1), 3):
            tasks = some_tasks(chance, book, 4, 4)
            surely, perhaps = plan(book, tasks), plan(book, tasks, every=None)
            for told, every in ((surely, True), (perhaps, False)):
                self.assertIs(shows_plan(book, tasks, told, every=every), True)
                if told != ():
                    self.assertLessEqual(max(ticks for _, ticks in tasks), told[0])
                    self.assertLessEqual(told[0], sum(ticks for _, ticks in tasks))
                    word = judged(book, ("goes", row_of(tasks, told[1])))[0]
                    self.assertIn(word, ("always",) if every else ("always", "open"))
            if surely != ():
                self.assertLessEqual(perhaps[0], surely[0])

    def test_by_hand(self):
        for text, tasks, surely, perhaps in (
                ("jobs a", (("a", 3),), (), (3, (0,))), ("jobs a\nlet 1 0", (("a", 3),), (3, (0,)), (3, (0,))),
                ("jobs a\nclean a\nlet 1 0", (("a", 3), ("a", 2)), 5, 3),
                ("jobs a\nlet 1 0", (("a", 1), ("a", 1)), (), 1),
                ("jobs a\nlet 1 0\nnot 2 0", (("a", 1), ("a", 1)), (), 2),
                ("jobs a\nlet 1 0\nnot 2 1", (("a", 1), ("a", 1)), (), ()),
                ("jobs a\nspent a\nlet 2 0", (("a", 4), ("a", 4)), 4, 4),
                ("jobs a\nspent a\nlet 2 0\nnot 3 0", (("a", 4), ("a", 4), ("a", 4)), (), ()),
                ("jobs a b\nclean a\nclean b\nlet 1 0 0 0\nlet 0 0 1 0", (("a", 4), ("b", 4), ("a", 1), ("b", 1)), 10, 4),
                ("jobs a b\nclean a\nclean b\nlet 1 0 1 0", (("a", 4), ("b", 4), ("a", 1), ("b", 1)), 5, 4),
                ("jobs a b\nlet 1 0 0 0\nlet 1 1 1 0", (("b", 1), ("a", 3)), (4, (3, 0)), 3),
                ("jobs a b\nlet 0 0 1 0\nlet 1 0 1 0", (("a", 2), ("b", 3)), 3, 3),
                ("jobs a b\nlet 0 0 1 0\nlet 1 0 1 0\nnot 2 0 0 0", (("a", 2), ("a", 3)), (), 5),
                ("jobs a b\nfree a\nfree b\nlet 0 0 1 0\nlet 1 0 1 0\nlet 1 0 1 1\nlet 1 1 1 1\nnot 1 0 0 0",
                 (("a", 2), ("b", 3)), (4, (2, 0)), (3, (1, 0)))):
            book = Book(text)
            for told, right in ((plan(book, tasks), surely), (plan(book, tasks, every=False), perhaps)):
                self.assertEqual(told if right == () or isinstance(right, tuple) else told[0], right, (text, tasks))

    def test_ends_come_ahead_of_begins_and_tasks_in_sequence(self):
        # One runs at a time: what begins as another one ends can begin only since ends come first.
        book = Book("jobs a b\nclean a\nclean b\nlet 1 0 0 0\nlet 0 0 1 0\nnot 1 0 1 0")
        self.assertEqual(plan(book, (("a", 2), ("b", 2)))[0], 4)
        self.assertEqual(plan(book, (("a", 2), ("b", 2)), every=False)[0], 4)
        self.assertEqual(row_of((("a", 2), ("b", 2)), (0, 2)),
                         (("begin", "a"), ("end", "a"), ("begin", "b"), ("end", "b")))
        # b gives what a takes as it begins: at one tick only if it is told first.
        book = Book("jobs a b\nfree a\nfree b\nlet 0 0 1 0\nlet 1 0 1 0\nlet 1 1 1 0\nlet 1 1 1 1\nlet 1 0 1 1\nnot 1 0 0 0")
        self.assertEqual(plan(book, (("b", 2), ("a", 2)))[:1], (2,))
        self.assertEqual(plan(book, (("a", 2), ("b", 2))), (3, (1, 0)))
        self.assertEqual(plan(book, (("a", 2), ("b", 2)), every=False), (3, (1, 0)))
        # The same of ends: that of b is let ahead of that of a alone.
        book = Book("jobs a b\nfree a\nfree b\nlet 1 0 0 0\nlet 1 0 1 0\nlet 0 0 1 0\nlet 1 0 1 1\nlet 1 1 1 1\nnot 1 1 1 0")
        self.assertEqual(plan(book, (("b", 2), ("a", 2)))[0], 2)
        self.assertEqual(plan(book, (("a", 2), ("b", 2)))[0], 3)

    def test_some_one_shop_lets_the_whole_row(self):
        # Each of two can run beside c, but a shop that lets both does not refuse what was refused.
        book = Book("jobs a b c\nspent a\nspent b\nspent c\nlet 0 0 0 0 1 0\nnot 2 0 2 0 0 0")
        both = (("a", 1), ("a", 1), ("b", 1), ("b", 1))
        self.assertEqual(plan(book, both, every=False), ())
        self.assertEqual(plan(book, both[:3], every=False)[0], 1)
        book = Book("jobs a b\nspent a\nspent b\nnot 2 0 0 0\nnot 0 0 2 0\nnot 3 0 3 0")
        self.assertEqual(plan(book, (("a", 1), ("b", 1)), every=False)[0], 1)
        book = Book("jobs a b\nspent a\nspent b\nnot 1 0 1 0\nlet 2 0 0 0")
        self.assertEqual(plan(book, (("b", 1),), every=False)[0], 1)
        self.assertEqual(plan(book, (("a", 1),))[0], 1)
        self.assertEqual(plan(book, (("a", 1), ("b", 1)), every=False), ())

    def test_every_is_true_alone(self):
        for every in [1, 0, "True", None, False, (), (True,), [True], 1.0, "", BOOK, -1] + any_values()[::5]:
            if every is not True:
                self.assertEqual(plan(BOOK, TASKS, every=every)[0], 2, every)
                self.assertIs(shows_plan(BOOK, TASKS, plan(BOOK, TASKS), every=every), False)
                self.assertIs(shows_plan(BOOK, TASKS, plan(BOOK, TASKS, every=False), every=every), True)
        self.assertEqual(plan(BOOK, TASKS, every=True), plan(BOOK, TASKS))
        with self.assertRaises(TypeError):
            plan(BOOK, TASKS, False)
        with self.assertRaises(TypeError):
            shows_plan(BOOK, TASKS, (), False)

    def test_more_tasks_than_can_run(self):
        book = Book("jobs a b c d\nfree a\nfree b\nfree c\nfree d\nnot 1 1 1 1 1 1 1 1")
        self.assertEqual(plan(book, tuple((job, 4) for job in book.jobs), every=False), ())
        self.assertEqual(plan(book, tuple((job, 4) for job in "abca"), every=False)[0], 4)


class Shows(unittest.TestCase):
    def test_values_near_to_right_ones(self):
        chance = random.Random(246)
        words = {True: 0, False: 0}
        for book in fitted_books(247, 12, (4, 2, 0), 2, (1, 2)) + seen_books(247, 12, (1, 2)):
            tasks = some_tasks(chance, book, chance.randint(1, 3), 3)
            for every in (True, False):
                brute = Brute(book, tasks, every)
                told = plan(book, tasks, every=every)
                values = bent(told) + [plan(book, tasks, every=not every), (), (brute.least, told), (brute.least,)]
                if told != ():
                    values += [(told[0], starts) for starts in itertools.product(range(4), repeat=len(tasks))]
                    values += [(told[0] + 1, tuple(start + 1 for start in told[1])), (told[0], list(told[1]))]
                    values += [(told[0] + later, told[1]) for later in (-1, 1, 10 ** 30)]
                    values += [(told[0] + 10 ** 30, tuple(start + 10 ** 30 for start in told[1]))]
                for value in values:
                    right = brute.is_result(value)
                    self.assertIs(shows_plan(book, tasks, value, every=every), right, (book.text, tasks, every, value))
                    words[right] += 1
        self.assertGreater(min(words.values()), 100)

    def test_any_values(self):
        for tasks in (TASKS, (("bob", 1), ("bob", 1)), (("ann", 1),)):
            for every in (True, False):
                for value in any_values() + [(), [], (3,), (3, ()), (1, (0,)), (1, (False,)), (True, (0,)), (1, [0]), (1, 0)]:
                    right = value == plan(BOOK, tasks, every=every) and type(value) is tuple and "True" not in repr(value)
                    self.assertIs(shows_plan(BOOK, tasks, value, every=every), right and "False" not in repr(value))


class Wrong(unittest.TestCase):
    def test_no_tasks(self):
        wrong = any_values() + [()] + [value for value in spoiled((("ann", 2), ("bob", 1)))]
        wrong += [(("ann", 0),), (("ann", 5),), (("ann", -1),), (("ann", True),), (("ann", "1"),), (("cat", 1),), (("", 1),)]
        wrong += [(("ann", 1),) * 5, [("ann", 1)], (["ann", 1],), (("ann", 1, 1),), (("ann",),), ("ann", 1), {"ann": 1}]
        wrong += [((1, "ann"),), (("ann", None),), ((("begin", "ann"), 1),), nested(30), ((("ann",), 1),), (("ann", 10 ** 14),)]
        for book in (BOOK, NONE):
            for value in wrong:
                for call in (lambda: plan(book, value), lambda: plan(book, value, every=False),
                             lambda: shows_plan(book, value, ()), lambda: shows_plan(book, value, None, every=3)):
                    with self.assertRaises(BadTasks) as caught:
                        call()
                    self.assertIs(caught.exception.value, value)

    def test_one_to_four_tasks_of_one_to_four_ticks(self):
        book = Book("jobs a\nspent a\nlet 9 0")
        for many in (1, 2, 3, 4):
            for ticks in (1, 2, 3, 4):
                self.assertEqual(plan(book, (("a", ticks),) * many), (ticks, (0,) * many))

    def test_no_shop(self):
        for book in (NONE, Book("jobs ann bob\nlet 2 0 0 0\nnot 1 0 0 0")):
            for call in (lambda: plan(book, TASKS), lambda: plan(book, TASKS, every=False),
                         lambda: shows_plan(book, TASKS, ()), lambda: shows_plan(book, TASKS, None, every=False)):
                with self.assertRaises(NoShop) as caught:
                    call()
                self.assertIs(caught.exception.value, book)


if __name__ == "__main__":
    unittest.main()
