import itertools
import random
import unittest

from tests.reading import (
    MANNERS, is_mixture, is_stock, is_sure_result, keeps, level, manners_of, small_stocks, some_book, some_books,
    some_standing)
from tests.values import any_values, bent, nested, spoiled
from unseenstocks.books import Book
from unseenstocks.days import heard
from unseenstocks.errors import BadStanding
from unseenstocks.fitting import possible
from unseenstocks.mixing import shows_sure, sure
from unseenstocks.shops import Shop

BOOK = Book("jobs ann bob\nclean ann\nlet 2 0 0 0\nlet 0 0 1 0\nnot 3 0 0 0")
BIG = 10 ** 60


def one_job(manner, lines):
    return Book("\n".join(["jobs a"] + [f"{manner} a"] * (manner != "plain") + list(lines)))


def is_sure(book, standing):
    return sure(book, standing)[0] == "sure"


class Example(unittest.TestCase):
    def test_examples_of_the_document(self):
        self.assertEqual(
            [sure(BOOK, ((2, 1), (0, 0)))[0], sure(BOOK, ((1, 0), (1, 0)))[0],
             shows_sure(BOOK, ((2, 1), (0, 0)), ("sure", (2, ((0, 1),), ())))],
            ["sure", "stock", True])
        more = BOOK.told(("let", ((0, 0), (2, 0))))
        self.assertEqual(
            [sure(more, ((1, 0), (1, 0)))[0],
             shows_sure(more, ((1, 0), (1, 0)), ("sure", (2, ((0, 1), (3, 1)), ())))],
            ["sure", True])


class ByHand(unittest.TestCase):
    def borders(self, book, inside, outside):
        for standing in inside:
            self.assertTrue(is_sure(book, standing), (book.text, standing))
        for standing in outside:
            self.assertFalse(is_sure(book, standing), (book.text, standing))

    def test_plain(self):
        book = one_job("plain", ["let 5 2", "let 1 1"])
        self.borders(book, [((5, 2),), ((5, 5),), ((3, 2),), ((2, 1),), ((1, 1),), ((0, 0),)],
                     [((6, 2),), ((6, 6),), ((5, 1),), ((3, 1),), ((1, 0),)])

    def test_clean(self):
        book = one_job("clean", ["let 9 6", "let 3 1"])
        self.borders(book, [((3, 0),), ((40, 37),), ((2, 0),), ((0, 0),), ((40, 40),)], [((4, 0),), ((40, 36),)])

    def test_spent(self):
        book = one_job("spent", ["let 7 7", "let 3 0"])
        self.borders(book, [((7, 0),), ((7, 7),), ((0, 0),)], [((8, 0),), ((8, 8),)])

    def test_free(self):
        book = one_job("free", ["let 4 2", "let 4 0"])
        self.borders(book, [((4, 2),), ((2, 1),), ((0, 0),), ((4, 0),), ((4, 1),), ((3, 1),), ((1, 0),)],
                     [((5, 2),), ((1, 1),), ((3, 2),), ((4, 3),)])

    def test_backs(self):
        lines = ["let 1 0", "as 3 1 to 1 1"]
        self.borders(one_job("plain", lines), [((40, 0),), ((40, 40),), ((1, 0),)], [])
        self.borders(one_job("free", lines), [((1, 0),), ((40, 0),), ((0, 0),)], [((1, 1),), ((40, 1),)])
        self.borders(one_job("clean", ["as 5 3 to 0 0"]), [((40, 0),)], [])
        self.borders(one_job("free", ["as 3 1 to 0 0"]), [((3, 1),), ((6, 2),), ((39, 13),)], [((3, 0),), ((1, 1),)])
        self.borders(one_job("free", ["as 3 1 to 0 0", "as 0 0 to 2 2"]), [((40, 40),), ((1, 0),)], [])

    def test_without_facts(self):
        first = ((0, 0),) * 2
        for manner in MANNERS:
            book = one_job(manner, [])
            self.borders(book, [((0, 0),)] + [((1, 1),)] * (manner == "clean"), [((1, 0),)])
            self.assertEqual(is_sure(book, ((1, 1),)), manner == "clean")
        self.assertEqual(sure(Book("jobs a b"), first), ("sure", (1, (), ())))

    def test_parts_of_several_facts(self):
        book = Book("jobs a b c\nlet 6 0 0 0 0 0\nlet 0 0 6 0 0 0\nlet 0 0 0 0 6 0")
        for begun in itertools.product(range(7), repeat=3):
            standing = tuple((many, 0) for many in begun)
            self.assertEqual(is_sure(book, standing), sum(begun) <= 6)

    def test_facts_not_tell_nothing(self):
        for book in some_books(70, 60, (6, 0, 2), 5):
            more = book
            for standing in (((1, 0),), ((2, 1),), ((0, 0),)):
                more = more.told(("not", standing * len(book.jobs)))
            for standing in [fact[1] for fact in more.facts]:
                self.assertEqual(is_sure(book, standing), is_sure(more, standing))

    def test_what_was_let_and_the_first_standing(self):
        for book in some_books(71, 80, (24, 6, 4), 40):
            self.assertTrue(is_sure(book, book.first))
            for fact in book.facts:
                if fact[0] == "let":
                    self.assertTrue(is_sure(book, fact[1]))

    def test_chains_of_facts(self):
        book = Book("jobs a b\nlet 0 0 1 0\nas 1 0 0 0 to 0 0 1 0\nas 2 0 0 0 to 1 0 0 0")
        self.borders(book, [((40, 0), (0, 0)), ((0, 0), (40, 0)), ((7, 7), (1, 1))], [])
        free = Book("jobs a b\nfree a\nfree b\nlet 0 0 40 0\nas 39 0 0 0 to 0 0 40 0\nas 38 0 1 0 to 39 0 0 0")
        # a takes as much as b, and 39 of a as much as 40 of b: so none of both changes anything.
        self.borders(free, [((40, 0), (40, 0)), ((1, 0), (0, 0))], [((1, 1), (0, 0))])


class Results(unittest.TestCase):
    def results(self, seed, number, many, most, asked):
        chance = random.Random(seed)
        for book in some_books(seed + 1, number, many, most):
            for standing in [fact[1] for fact in book.facts][:asked]:
                yield book, standing, sure(book, standing)
            for size in (1, most // 2, most):
                standing = some_standing(chance, len(book.jobs), size)
                yield book, standing, sure(book, standing)

    def test_results_are_right(self):
        words = set()
        for many, most in (((24, 6, 4), 40), ((24, 6, 1), 40), ((24, 0, 0), 7), ((5, 3, 2), 3), ((3, 3, 1), 40)):
            for book, standing, told in self.results(72 + most, 60, many, most, 6):
                self.assertTrue(is_sure_result(manners_of(book), book.facts, standing, told), (book.text, standing))
                self.assertIs(shows_sure(book, standing, told), True)
                self.assertEqual(sure(book=book, standing=standing), told)
                words.add((told[0], len(book.jobs)))
        self.assertEqual(len(words), 8)

    def test_as_many_facts_as_can_be(self):
        chance = random.Random(73)
        for manners in itertools.product(MANNERS, repeat=4):
            book = some_book(chance, manners, (24, 6, chance.randint(0, 4)), 40)
            for most in (4, 12):
                standing = some_standing(chance, 4, most)
                told = sure(book, standing)
                self.assertTrue(is_sure_result(manners, book.facts, standing, told), (book.text, standing))
                self.assertIs(shows_sure(book=book, standing=standing, value=told), True)

    def test_beside_all_small_stocks(self):
        for many, most in (((3, 0, 1), 3), ((4, 0, 0), 2)):
            for book in some_books(74 + most, 40, many, most, (1, 2)):
                manners = manners_of(book)
                stocks = [stock for stock in small_stocks(manners, 4, 2) if keeps(stock, book.facts)]
                pairs = [(begun, ended) for begun in range(4) for ended in range(begun + 1)]
                chosen = list(itertools.product(pairs, repeat=len(manners)))[::len(manners) * 2 - 1]
                for standing in chosen:
                    small = [stock for stock in stocks if level(stock, standing) < 0]
                    if small:
                        self.assertFalse(is_sure(book, standing), (book.text, standing, small[0]))
                        self.assertIs(shows_sure(book, standing, ("stock", small[-1])), True)

    def test_values_near_to_right_ones(self):
        words = {True: 0, False: 0}
        for many, most, seed in (((4, 1, 2), 3, 75), ((3, 1, 1), 40, 76), ((2, 0, 2), 2, 78)):
            for book, standing, told in self.results(seed, 12, many, most, 2):
                for value in bent(told) + [(told[0], told[1] + told[1])]:
                    right = is_sure_result(manners_of(book), book.facts, standing, value)
                    self.assertIs(shows_sure(book, standing, value), right, (book.text, standing, value))
                    words[right] += 1
        self.assertGreater(min(words.values()), 200)

    def test_any_values(self):
        for standing in (BOOK.first, ((1, 0), (1, 0))):
            for value in any_values() + ["sure", ("sure",), ("stock",), ["sure", (1, (), ())], ("sure", [1, (), ()])]:
                right = is_sure_result(("clean", "plain"), BOOK.facts, standing, value)
                self.assertIs(shows_sure(BOOK, standing, value), right, value)

    def test_mixtures_put_together(self):
        standing = ((2, 1), (1, 0))
        facts = ((0, 1), (1, 1))
        for book in (BOOK, BOOK.told(("as", ((3, 1), (2, 0)), ((2, 0), (2, 1)))), Book(BOOK.text + "\nlet 2 1 2 0")):
            manners = manners_of(book)
            for times in (0, 1, 2, 3, True, BIG, -1):
                for numbers in ((), (0,), (1,), (0, 1), (1, 0), (0, 0), (2,), (3,), (0, 3), (1, 3), (-1,), (False,)):
                    for amount in (0, 1, 2, -1, True, BIG):
                        parts = tuple((number, amount) for number in numbers)
                        for value in ((times, parts, ()), (times, (), parts), (times, facts, parts), (times, parts)):
                            right = is_mixture(manners, book.facts, standing, value)
                            self.assertIs(shows_sure(book, standing, ("sure", value)), right, (book.text, value))

    def test_each_line_counts(self):
        jobs = Book("jobs p c s f\nclean c\nspent s\nfree f\nlet 4 2 4 2 4 2 4 2")
        good = ((4, 2),) * 4
        mixture = ("sure", (1, ((0, 1),), ()))
        right = {(3, 2): "pcs", (5, 2): "", (4, 1): "s", (4, 3): "pcs", (5, 3): "c", (3, 1): "cs", (4, 4): "pcs",
                 (3, 0): "s", (6, 4): "c", (2, 2): "pcs"}
        self.assertIs(shows_sure(jobs, good, mixture), True)
        for pair, letters in right.items():
            for at, job in enumerate(jobs.jobs):
                standing = good[:at] + (pair,) + good[at + 1:]
                self.assertIs(shows_sure(jobs, standing, mixture), job in letters, (pair, job))

    def test_weights_are_at_most_the_whole(self):
        book = Book("jobs a\nlet 1 0\nlet 0 0")
        for times, weights, right in ((1, ((0, 1),), True), (1, ((0, 1), (1, 1)), False), (2, ((0, 2),), True),
                                      (2, ((0, 3),), False), (3, ((0, 3),), True), (3, ((0, 2), (1, 1)), False)):
            self.assertIs(shows_sure(book, ((1, 0),), ("sure", (times, weights, ()))), right)

    def test_weights_are_from_one_on_and_backs_anything_but_zero(self):
        book = Book("jobs a\nclean a\nlet 1 1\nas 1 0 to 2 1")
        for amount in (-BIG, -2, -1, 0, 1, 2, BIG):
            self.assertIs(shows_sure(book, ((3, 3),), ("sure", (BIG, ((0, amount),), ()))), amount > 0)
            self.assertIs(shows_sure(book, ((3, 3),), ("sure", (1, (), ((1, amount),)))), amount != 0)

    def test_great_numbers(self):
        mixture = (2 * BIG, ((0, BIG),), ())
        self.assertIs(shows_sure(BOOK, ((1, 0), (0, 0)), ("sure", mixture)), True)
        self.assertIs(shows_sure(BOOK, ((1, 0), (0, 0)), ("sure", (2 * BIG + 1, ((0, BIG),), ()))), False)
        self.assertIs(shows_sure(BOOK, ((1, 0), (0, 0)), ("sure", (2 * BIG, ((0, 2 * BIG + 1),), ()))), False)
        standing = ((1, 0), (1, 0))
        self.assertIs(shows_sure(BOOK, standing, ("stock", (2 * BIG, ((-BIG, BIG), (-BIG - 1, 0))))), True)
        self.assertIs(shows_sure(BOOK, standing, ("stock", (2 * BIG, ((-BIG, BIG), (-BIG, 0))))), False)
        self.assertIs(shows_sure(BOOK, standing, ("stock", (2 * BIG - 1, ((-BIG, BIG), (-BIG - 1, 0))))), False)

    def test_deep_values(self):
        for value in (nested(30), ("sure", nested(29)), ("stock", nested(29)), ("sure", (1, nested(28), ())),
                      ("sure", (1, (), nested(28))), ("stock", (0, nested(28)))):
            self.assertIs(shows_sure(BOOK, BOOK.first, value), False)

    def test_stocks_of_another_manner_do_not_count(self):
        for manner in MANNERS:
            book = one_job(manner, ["let 1 1"])
            for begin, end in itertools.product(range(-3, 4), repeat=2):
                value = ("stock", (2, ((begin, end),)))
                right = is_stock(value[1], (manner,)) and 2 + begin + end >= 0 > 2 + 3 * begin + 2 * end
                self.assertIs(shows_sure(book, ((3, 2),), value), right, (manner, value))


class Wrong(unittest.TestCase):
    def test_no_standing(self):
        good = ((2, 1), (1, 0))
        wrong = any_values() + spoiled(good) + bent(good) + [((41, 0), (0, 0)), ((0, 1), (0, 0)), nested(30)]
        for value in wrong:
            if (type(value) is tuple and len(value) == 2
                    and all(type(pair) is tuple and len(pair) == 2 and all(type(count) is int for count in pair)
                            and 0 <= pair[1] <= pair[0] <= 40 for pair in value)):
                self.assertIn(sure(BOOK, value)[0], ("sure", "stock"))
                continue
            for call in (sure, lambda book, standing: shows_sure(book, standing, None)):
                with self.assertRaises(BadStanding) as caught:
                    call(BOOK, value)
                self.assertIs(caught.exception.value, value)

    def test_counts_to_forty(self):
        book = Book("jobs a b")
        for good in ((((40, 40), (40, 0)), ((40, 0), (0, 0)))):
            self.assertIn(sure(book, good)[0], ("sure", "stock"))
        for bad in (((41, 40), (0, 0)), ((0, 0), (41, 0)), ((-1, -1), (0, 0)), ((1, 2), (0, 0)), ((True, 0), (0, 0))):
            with self.assertRaises(BadStanding):
                sure(book, bad)


class BooksThatCameAbout(unittest.TestCase):
    def test_as_the_book_read_from_its_text(self):
        chance = random.Random(80)
        for book in some_books(81, 40, (6, 2, 1), 4):
            text = book.text
            more = book
            for _ in range(3):
                more = more.told(("let", some_standing(chance, len(book.jobs), 5)))
            more = more.told(("not", some_standing(chance, len(book.jobs), 5)))
            job = book.jobs[-1]
            day = (("begin", book.jobs[0]), ("begin", job), ("as", 0), ("end", job), ("no", "begin", job))
            fresh = heard(more.untold(0), day) | book
            for one in (more, fresh, fresh.untold(len(fresh) - 1)):
                read = Book(one.text)
                self.assertEqual((one, one.facts, len(one), one.first), (read, read.facts, len(read), read.first))
                self.assertEqual(possible(one), possible(read))
                for standing in [fact[-1] for fact in one.facts]:
                    self.assertEqual(sure(one, standing), sure(read, standing))
            self.assertEqual((book.text, book), (text, Book(text)))


class Guarantees(unittest.TestCase):
    def standings(self, chance, book, most):
        return [fact[1] for fact in book.facts] + [some_standing(chance, len(book.jobs), most) for _ in range(6)]

    def test_more_seen(self):
        chance = random.Random(82)
        for book in some_books(83, 60, (4, 2, 1), 4):
            more = book.told(("let", some_standing(chance, len(book.jobs), 4)))
            other = some_standing(chance, len(book.jobs), 4)
            if other != book.first and len([fact for fact in book.facts if fact[0] == "as"]) < 4:
                more = more.told(("as", other, book.first))
            for standing in self.standings(chance, book, 4):
                told = sure(book, standing)
                if told[0] == "sure":
                    self.assertTrue(is_sure(more, standing))
                    self.assertIs(shows_sure(more, standing, told), True)

    def test_names_and_sequence(self):
        chance = random.Random(84)
        for book in some_books(85, 60, (5, 2, 1), 4):
            order = list(range(len(book.jobs)))
            chance.shuffle(order)
            lines = ["jobs " + " ".join("wxyz"[at] for at in range(len(order)))]
            for at, old in enumerate(order):
                manner = book.manner(book.jobs[old])
                if manner != "plain":
                    lines.append(f"{manner} {'wxyz'[at]}")
            other = Book("\n".join(lines))
            facts = list(book.facts)
            chance.shuffle(facts)
            for fact in facts:
                other = other.told((fact[0],) + tuple(tuple(standing[old] for old in order) for standing in fact[1:]))
            for standing in self.standings(chance, book, 4):
                turned = tuple(standing[old] for old in order)
                self.assertEqual(is_sure(book, standing), is_sure(other, turned))
            self.assertEqual(possible(book)[0], possible(other)[0])

    def test_manners_told_otherwise(self):
        chance = random.Random(86)
        for book in some_books(87, 60, (5, 0, 1), 4):
            lines = book.text.split("\n")
            head = [line for line in lines if line.split(" ")[0] in MANNERS]
            facts = lines[1 + len(head):]
            for job in book.jobs:
                others = [line for line in head if line.split(" ")[1] != job]
                for manner in ("clean", "spent", "free"):
                    other = Book("\n".join([lines[0], *others, f"{manner} {job}", *facts]))
                    for standing in self.standings(chance, book, 4):
                        told = sure(book, standing)
                        if manner == "free":
                            self.assertTrue(told[0] == "sure" or not is_sure(other, standing))
                            if is_sure(other, standing):
                                self.assertIs(shows_sure(book, standing, sure(other, standing)), True)
                        elif book.manner(job) == "plain" and told[0] == "sure":
                            self.assertIs(shows_sure(other, standing, told), True)
                            self.assertTrue(is_sure(other, standing))

    def test_counts_times_as_great(self):
        chance = random.Random(88)
        for book in some_books(89, 60, (5, 0, 2), 4):
            head = [line for line in book.text.split("\n") if line.split(" ")[0] not in ("let", "as")]
            for times in (1, 2, 7, 10):
                other = Book("\n".join(head))
                grown = [(fact[0],) + tuple(self.times(standing, times) for standing in fact[1:]) for fact in book.facts]
                for fact in grown:
                    other = other.told(fact)
                for standing in self.standings(chance, book, 4):
                    told = sure(book, standing)
                    if told[0] == "sure":
                        self.assertTrue(is_sure(other, self.times(standing, times)))
                        self.assertIs(shows_sure(other, self.times(standing, times), told), True)

    def times(self, standing, times):
        return tuple((begun * times, ended * times) for begun, ended in standing)

    def test_a_job_less(self):
        chance = random.Random(90)
        for book in some_books(91, 60, (5, 2, 2), 4, (2, 3, 4)):
            at = chance.randrange(len(book.jobs))
            job = book.jobs[at]
            lines = ["jobs " + " ".join(name for name in book.jobs if name != job)]
            lines += [f"{book.manner(name)} {name}" for name in book.jobs if name != job and book.manner(name) != "plain"]
            less = Book("\n".join(lines))
            for fact in book.facts:
                told = (fact[0],) + tuple(standing[:at] + standing[at + 1:] for standing in fact[1:])
                if fact[0] == "let" or (fact[0] == "as" and told[1] != told[2]):
                    less = less.told(told)
            for standing in self.standings(chance, book, 4):
                if is_sure(book, standing):
                    self.assertTrue(is_sure(less, standing[:at] + standing[at + 1:]))


class WithShops(unittest.TestCase):
    def test_stocks_can_be_handed_in(self):
        for book in some_books(92, 40, (5, 0, 1), 40):
            told = sure(book, ((40, 3),) * len(book.jobs))
            if told[0] == "stock":
                shop = Shop(book, (told[1],))
                self.assertIs(shop.fits(book), True)
                self.assertIs(shop.lets(((40, 3),) * len(book.jobs)), False)


if __name__ == "__main__":
    unittest.main()
