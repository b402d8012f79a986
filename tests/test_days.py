import itertools
import unittest

from tests.values import any_values, spoiled
from unseenstocks.books import Book
from unseenstocks.days import heard, standings
from unseenstocks.errors import BadDay, BadRow, Full

DAY = (("begin", "ann"), ("begin", "bob"), ("end", "bob"), ("as", 1), ("no", "begin", "ann"))
EVENTS = tuple((word, job) for job in ("a", "b") for word in ("begin", "end"))


def counted(jobs, events):
    """The standing behind some events, counted anew; None if some end has no begin."""
    for at in range(len(events)):
        job = events[at][1]
        if events[:at + 1].count(("end", job)) > events[:at + 1].count(("begin", job)):
            return None
    return tuple((events.count(("begin", job)), events.count(("end", job))) for job in jobs)


def facts_of_day(jobs, day):
    """The facts that a day tells, with those told twice; None for what is no day."""
    let = []
    facts = []
    for note in day:
        now = counted(jobs, let)
        if note[0] == "as":
            if note[1] > len(let):
                return None
            facts.append(("as", now, counted(jobs, let[:note[1]])))
            continue
        event = note[-2:]
        if counted(jobs, [*let, event]) is None:
            return None
        facts.append(("not" if note[0] == "no" else "let", counted(jobs, [*let, event])))
        if note[0] != "no":
            let.append(event)
    return [fact for fact in facts if fact[0] != "as" or fact[1] != fact[2]]


class DayCase(unittest.TestCase):
    def check_raises(self, error, value, call, *given):
        with self.assertRaises(error) as caught:
            call(*given)
        self.assertIs(type(caught.exception), error)
        self.assertIs(caught.exception.value, value)


class Rows(DayCase):
    """standings."""

    def test_document_example(self):
        book = Book("jobs ann bob\nclean ann\nlet 2 0 0 0\nlet 0 0 1 0\nnot 3 0 0 0")
        self.assertEqual(
            standings(book, DAY[:3]), (((1, 0), (0, 0)), ((1, 0), (1, 0)), ((1, 0), (1, 1))))

    def test_all_short_rows(self):
        book = Book("jobs a b\nspent b")
        for many in range(6):
            for row in itertools.product(EVENTS, repeat=many):
                if counted(book.jobs, row) is None:
                    self.check_raises(BadRow, row, standings, book, row)
                else:
                    expected = tuple(counted(book.jobs, row[:at + 1]) for at in range(many))
                    self.assertEqual(standings(book, row), expected)

    def test_one_and_four_jobs(self):
        self.assertEqual(standings(Book("jobs end"), (("begin", "end"), ("end", "end"))), (((1, 0),), ((1, 1),)))
        four = Book("jobs d c b a\nfree a\nnot 0 0 0 0 0 0 0 0")
        row = (("begin", "a"), ("begin", "c"), ("end", "a"))
        self.assertEqual(standings(four, row)[-1], ((0, 0), (1, 0), (0, 0), (1, 1)))

    def test_no_event(self):
        self.assertEqual(standings(Book("jobs a"), ()), ())

    def test_most_events(self):
        book = Book("jobs a b")
        row = EVENTS[:2] * 12
        self.assertEqual(standings(book, row)[-1], ((12, 12), (0, 0)))
        self.assertEqual(standings(book, EVENTS[:1] * 24)[-1], ((24, 0), (0, 0)))
        self.assertEqual(standings(book, EVENTS[2:3] * 24)[-1], ((0, 0), (24, 0)))
        for long in (row + EVENTS[:1], EVENTS[:1] * 25, EVENTS[2:3] * 25, EVENTS * 10):
            self.check_raises(BadRow, long, standings, book, long)

    def test_no_rows(self):
        book = Book("jobs a b")
        row = (("begin", "a"), ("begin", "b"), ("end", "a"))
        wrong = any_values() + spoiled(row) + [list(row), [list(event) for event in row], 0, 1]
        wrong = wrong + [
            (*row, ("end", "a")), (("end", "b"), *row), (*row, ("no", "begin", "a")), (*row, ("as", 0)),
            (*row, ("begin", "c")), (*row, ("Begin", "a")), (*row, ("a", "begin")), (*row, ("begin", 0)),
            (*row, ("begin", "a", "b")), (*row, ("begin",)), (*row, "begin a"), ("begin", "a"), book, (*row, row),
            (*row, ("begin", "")), (*row, ("", "a")), (*row, ("begin", "ab")), (*row, "ab"),
        ]
        for value in wrong:
            self.check_raises(BadRow, value, standings, book, value)
        self.assertEqual(book.text, "jobs a b")

    def test_arguments_by_name(self):
        book = Book("jobs a")
        self.assertEqual(standings(row=(("begin", "a"),), book=book), (((1, 0),),))
        self.assertEqual(heard(day=(), book=book), book)


class Days(DayCase):
    """heard."""

    def test_document_example(self):
        self.assertEqual(
            heard(Book("jobs ann bob"), DAY).text.split("\n"),
            ["jobs ann bob", "let 1 0 0 0", "let 1 0 1 0", "let 1 0 1 1", "as 1 0 1 1 to 1 0 0 0", "not 2 0 1 1"])

    def test_all_short_days(self):
        notes = EVENTS + tuple(("no", *event) for event in EVENTS) + tuple(("as", many) for many in range(4))
        book = Book("jobs a b\nfree b\nlet 1 0 0 0\nnot 0 0 1 0")
        for many in range(4):
            for day in itertools.product(notes, repeat=many):
                facts = facts_of_day(book.jobs, day)
                if facts is None:
                    self.check_raises(BadDay, day, heard, book, day)
                else:
                    expected = tuple(dict.fromkeys([*book.facts, *facts]))
                    self.assertEqual(heard(book, day).facts, expected)
        self.assertEqual(book.text, "jobs a b\nfree b\nlet 1 0 0 0\nnot 0 0 1 0")

    def test_day_goes_on_without_what_was_refused(self):
        day = (("no", "begin", "a"), ("begin", "b"), ("no", "end", "b"), ("no", "end", "b"), ("end", "b"), ("begin", "a"))
        self.assertEqual(
            heard(Book("jobs a b"), day).text.split("\n")[1:],
            ["not 1 0 0 0", "let 0 0 1 0", "not 0 0 1 1", "let 0 0 1 1", "let 1 0 1 1"])

    def test_as_of_equal_standings(self):
        book = Book("jobs a b")
        self.assertEqual(heard(book, (("as", 0),) * 24), book)
        day = (("begin", "a"), ("as", 1), ("as", 0), ("no", "begin", "b"), ("as", 1), ("as", 0))
        self.assertEqual(heard(book, day).text, "jobs a b\nlet 1 0 0 0\nas 1 0 0 0 to 0 0 0 0\nnot 1 0 1 0")

    def test_numbers_of_as(self):
        book = Book("jobs a b")
        for many in range(5):
            events = (("begin", "a"), ("no", "begin", "b"), ("begin", "b"), ("end", "a"), ("begin", "a"))[:many]
            let = len([note for note in events if note[0] != "no"])
            for number in range(-2, 8):
                day = (*events, ("as", number))
                if 0 <= number <= let:
                    known = tuple(dict.fromkeys(facts_of_day(book.jobs, day)))
                    self.assertEqual(heard(book, day).facts, known)
                else:
                    self.check_raises(BadDay, day, heard, book, day)

    def test_most_notes(self):
        book = Book("jobs a")
        self.assertEqual(len(heard(book, (("begin", "a"),) * 24)), 24)
        self.assertEqual(heard(book, (("begin", "a"), ("end", "a")) * 12).facts[-1], ("let", ((12, 12),)))
        self.assertEqual(len(heard(book, (("no", "begin", "a"),) * 24)), 1)
        for day in ((("begin", "a"),) * 25, (("no", "begin", "a"),) * 25, (("as", 0),) * 25, (("as", 0),) * 100):
            self.check_raises(BadDay, day, heard, book, day)

    def test_no_days(self):
        book = Book("jobs a b\nlet 1 0 0 0")
        day = (("begin", "a"), ("no", "begin", "b"), ("as", 0), ("begin", "b"), ("no", "end", "a"), ("as", 1), ("end", "a"))
        self.assertEqual(len(heard(book, day)), 7)
        wrong = any_values() + spoiled(day) + [list(day), [list(note) for note in day], 0, 1, book, "begin a"]
        wrong = wrong + [
            (*day, ("end", "a")), (*day, ("no", "end", "a")), (("no", "end", "b"), *day), (("end", "b"), *day),
            (*day, ("begin", "c")), (*day, ("no", "begin", "c")), (*day, ("no", "begin")), (*day, ("no", "as", 0)),
            (*day, ("no", "no", "begin", "a")), (*day, ("no", ("begin", "a"))), (*day, ("as", 4)), (*day, ("as", -1)),
            (*day, ("as",)), (*day, ("as", 0, 0)), (*day, ("as", "0")), (*day, ("as", "a")), (*day, ("as", True)),
            (*day, ("as", False)), (*day, ["as", 0]), (*day, ("begin", "a", "b")), (*day, ("yes", "begin", "a")),
            (*day, ()), (*day, ("no",)), (*day, "as"), (*day, ("no", "begin", "a", "b")), (*day, ("No", "begin", "a")),
        ]
        for value in wrong:
            self.check_raises(BadDay, value, heard, book, value)
        self.assertEqual(book.text, "jobs a b\nlet 1 0 0 0")

    def test_words_of_notes_can_be_jobs(self):
        day = (("begin", "as"), ("no", "begin", "no"), ("as", 0), ("end", "as"))
        self.assertEqual(
            heard(Book("jobs as no"), day).text.split("\n")[1:],
            ["let 1 0 0 0", "not 1 0 1 0", "as 1 0 0 0 to 0 0 0 0", "let 1 1 0 0"])


class FullDays(DayCase):
    """Days that tell too much."""

    def setUp(self):
        lines = [f"let {at + 10} 0 0 0" for at in range(24)] + [f"not 0 0 {at + 10} 0" for at in range(6)]
        lines = lines + [f"as {at + 10} 0 0 0 to 0 0 0 0" for at in range(4)]
        self.full = Book("\n".join(["jobs a b", *lines]))

    def test_first_note_that_is_too_much(self):
        let, refused = ("begin", "a"), ("no", "begin", "b")
        for day, most in (((let,), 24), ((refused,), 6), ((let, refused), 24), ((refused, let), 6),
                          ((("as", 0), refused, let), 6), ((let, ("as", 0)), 24)):
            self.check_raises(Full, most, heard, self.full, day)
        self.assertEqual(len(self.full), 34)

    def test_each_kind_just_full_and_one_beyond(self):
        begins = (("begin", "a"),) * 5
        for kind, most, day in (("let", 24, begins[:1]), ("not", 6, (("no", "begin", "b"),)), ("as", 4, (*begins, ("as", 0)))):
            facts = [fact for fact in self.full.facts if fact[0] == kind]
            book = Book("jobs a b")
            for fact in facts:
                book = book.told(fact)
            self.check_raises(Full, most, heard, book, day)
            less = book.untold(0)
            grown = heard(less, day)
            self.assertEqual(len([fact for fact in grown.facts if fact[0] == kind]), most)
            self.assertEqual((len(book), len(less)), (most, most - 1))

    def test_one_day_fills_a_book(self):
        book = Book("jobs a b")
        refused = [("no", "begin", job) for job in "ab"]
        day = (*refused, ("begin", "a"), *refused, ("begin", "a"), *refused)
        grown = heard(book, day)
        self.assertEqual([fact[0] for fact in grown.facts], ["not", "not", "let", "not", "not", "let", "not", "not"])
        self.check_raises(Full, 6, heard, book, (*day, ("no", "end", "a")))
        self.assertEqual(book.facts, ())

    def test_bad_day_comes_first(self):
        for last in (None, ("end", "b"), ("as", 9), ("begin", "c"), ["begin", "a"], ("no", "end", "b"), ("as", True)):
            day = (("begin", "a"), ("no", "begin", "b"), last)
            self.check_raises(BadDay, day, heard, self.full, day)
        day = (("begin", "a"),) * 25
        self.check_raises(BadDay, day, heard, self.full, day)

    def test_facts_that_are_there_are_never_too_much(self):
        lines = [f"let {at + 1} 0" for at in range(24)] + [f"not {at + 1} 1" for at in range(6)]
        lines = lines + [f"as {at + 1} 0 to 0 0" for at in range(4)]
        full = Book("\n".join(["jobs a", *lines]))
        day = (("begin", "a"), ("as", 0), ("no", "end", "a"), ("as", 1), ("no", "end", "a"), ("begin", "a"), ("as", 0))
        self.assertEqual(heard(full, day), full)
        self.assertEqual(heard(full, (("begin", "a"),) * 24), full)
        day = (("begin", "a"),) * 4 + (("as", 0), ("as", 4), ("begin", "a"), ("as", 5))
        self.assertEqual(heard(full, day), full)
        self.check_raises(Full, 4, heard, full, (*day, ("as", 0)))
        self.check_raises(Full, 24, heard, full, (("begin", "a"), ("end", "a")))

    def test_twice_on_one_day_is_told_once(self):
        book = Book("jobs a")
        day = (("begin", "a"), ("as", 0), ("as", 0), ("no", "begin", "a"), ("no", "begin", "a"), ("as", 0))
        self.assertEqual(heard(book, day).text, "jobs a\nlet 1 0\nas 1 0 to 0 0\nnot 2 0")


if __name__ == "__main__":
    unittest.main()
