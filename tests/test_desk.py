import random
import re
import unittest

from tests.leading import Model, check, check_error, deed_of, fact_of, led, line_of, some_deed
from tests.reading import fitted_books, seen_books
from tests.values import any_values
from unseenstocks.benches import Bench
from unseenstocks.books import Book
from unseenstocks.days import standings
from unseenstocks.desk import Desk
from unseenstocks.errors import (
    BadEvent, BadJournal, BadLine, BadNumber, BadRow, Contrary, Full, NoJob, NothingToRedo, NothingToUndo, StockError)
from unseenstocks.explaining import bars, fewest
from unseenstocks.journals import journal
from unseenstocks.judging import judged
from unseenstocks.sparing import spare

TEXT = "jobs ann bob\nclean ann\nlet 2 0 0 0\nlet 0 0 1 0\nnot 3 0 0 0\nseen"


class Answers:
    """What the document's table tells of a line, by the model of a bench."""

    def __init__(self, model):
        self.model = model

    def say(self, line):
        """The answer, or the error that is due."""
        book, row = self.model.book, self.model.row
        told = re.fullmatch("may (begin|end) ([^ ]+)", line)
        if told:
            try:
                standing = standings(book, row + (told.groups(),))[-1]
            except BadRow:
                return BadEvent(told.groups())
            return judged(book, ("lets", standing))[0]
        told = re.fullmatch("spare ([^ ]+)", line)
        if told:
            if told[1] not in book.jobs:
                return NoJob(told[1])
            return "{} {}".format(*spare(book, ((book.first,) + standings(book, row))[-1], told[1]))
        if line in ("undo", "redo"):
            return (self.model.undo() if line == "undo" else self.model.redo()) or "ok"
        if line == "stocks":
            return str(fewest(book)[0])
        if line == "bars":
            return ", ".join(" ".join(map(str, lot)) for lot in bars(book)) or "-"
        deed = deed_of(line)
        return BadLine(line) if deed is None else self.model.do(deed) or "ok"


def some_line(chance, model):
    draw, job = chance.random(), chance.choice(model.book.jobs + ("cat",))
    word = chance.choice(("begin", "end"))
    if draw < 0.5:
        deed = some_deed(chance, model.book, model.row)
        return line_of(deed)
    return chance.choice((f"may {word} {job}", f"may {word} {job}", f"spare {job}", "stocks", "bars", "undo", "undo", "redo"))


class DeskCase(unittest.TestCase):
    def check_said(self, desk, answers, line):
        """Whether what is said of a line is right, and changes what it has to."""
        before = (answers.model.book, answers.model.row)
        right = answers.say(line)
        try:
            told = desk.say(line)
            self.assertIs(type(told), str)
            self.assertEqual(told, right, line)
        except StockError as error:
            self.assertIsInstance(right, StockError, line)
            if isinstance(right, (Contrary, Full)):
                fact = fact_of(*before, deed_of(line)) if isinstance(right, Contrary) else None
                check_error(self, error, right, before[0], fact)
            else:
                self.assertIs(type(error), type(right), line)
                self.assertEqual(error.value, right.value)
                self.assertIs(type(error.value), type(right.value))
        check(self, desk.bench, answers.model)
        return right if isinstance(right, str) else type(right).__name__


class Example(unittest.TestCase):
    def test_example_of_the_document(self):
        bench = Bench(Book(TEXT[:-5]))
        bench.let(("begin", "bob"))
        bench.let(("begin", "ann"))
        desk = Desk(journal(bench))
        lines = ("may begin ann", "spare bob", "no begin ann", "stocks", "undo", "may end bob")
        self.assertEqual([desk.say(line) for line in lines], ["open", "0 39", "ok", "1", "ok", "always"])


class Say(DeskCase):
    def test_long_days(self):
        chance = random.Random(300)
        found = {}
        for book in fitted_books(301, 40, (4, 3, 1), 3) + seen_books(301, 20):
            bench, model = led(chance, book, chance.randint(0, 10))
            desk, answers = Desk(journal(bench)), Answers(model)
            self.assertTrue(desk.bench == bench)
            for _ in range(50):
                line = some_line(chance, model)
                key = (line.split(" ")[0], self.check_said(desk, answers, line))
                found[key] = found.get(key, 0) + 1
        for key in (("may", "always"), ("may", "never"), ("may", "open"), ("may", "BadEvent"), ("spare", "NoJob"), ("bars", "-"),
                    ("begin", "ok"), ("end", "ok"), ("no", "ok"), ("same", "ok"), ("morning", "ok"), ("undo", "ok"),
                    ("redo", "ok"), ("undo", "NothingToUndo"), ("redo", "NothingToRedo"), ("begin", "BadEvent"),
                    ("begin", "Contrary"), ("no", "Contrary"), ("same", "BadNumber"), ("no", "Full")):
            self.assertGreater(found.get(key, 0), 1, key)

    def test_by_hand(self):
        desk = Desk(TEXT)
        for line, answer in (
                ("stocks", "1"), ("bars", "-"), ("spare ann", "2 2"), ("spare bob", "1 40"), ("may begin ann", "always"),
                ("begin ann", "ok"), ("may end ann", "always"), ("may begin bob", "open"), ("no begin bob", "ok"),
                ("may begin bob", "never"), ("spare bob", "0 0"), ("end ann", "ok"), ("same 0", "ok"), ("morning", "ok"),
                ("undo", "ok"), ("undo", "ok"), ("redo", "ok"), ("redo", "ok"), ("may begin bob", "always")):
            self.assertEqual(desk.say(line), answer, line)
        self.assertEqual(desk.bench.done, 5)
        self.assertEqual(journal(desk.bench), TEXT + "\nbegin ann\nno begin bob\nend ann\nsame 0\nmorning")

    def test_bars(self):
        two = Book("jobs a b\nlet 2 0 1 0\nlet 1 0 2 0\nnot 3 0 0 0\nnot 0 0 3 0")
        desk = Desk(two.text + "\nseen")
        self.assertEqual((desk.say("bars"), desk.say("stocks")), ("2 3", "2"))
        three = Book("jobs a b c\nlet 9 0 9 0 0 0\nlet 9 0 0 0 9 0\nlet 0 0 9 0 9 0\nnot 10 0 0 0 0 0\nnot 0 0 10 0 0 0"
                     "\nnot 0 0 0 0 10 0")
        desk = Desk(three.text + "\nseen")
        self.assertEqual((desk.say("bars"), desk.say("stocks")), ("3 4, 3 5, 4 5", "3"))
        many = Book("jobs a b c\nlet 4 0 0 0 0 0\nlet 0 0 4 0 0 0\nlet 0 0 0 0 4 0\nlet 2 0 2 0 2 0\nnot 5 0 0 0 0 0"
                    "\nnot 0 0 5 0 0 0\nnot 0 0 0 0 5 0")
        self.assertEqual(Desk(many.text + "\nseen").say(line="bars"), "4 5 6")

    def test_events_behind_twenty_four(self):
        desk = Desk("jobs a\nas 1 1 to 0 0\nlet 1 0\nseen")
        for line in ("begin a", "end a") * 12:
            self.assertEqual((desk.say("may " + line)[:6], desk.say(line)), ("always", "ok"))
        for line in ("begin a", "no begin a", "may begin a"):
            with self.assertRaises(BadEvent) as caught:
                desk.say(line)
            self.assertEqual(caught.exception.value, ("begin", "a"))
        self.assertEqual((desk.say("spare a"), desk.say("morning"), desk.say("may begin a")), ("1 28", "ok", "always"))

    def test_what_is_refused_and_what_is_asked_changes_nothing(self):
        chance = random.Random(302)
        for book in fitted_books(303, 10, (3, 2, 1), 3):
            bench, model = led(chance, book, 12)
            desk = Desk(journal(bench))
            done = desk.bench.done
            while desk.bench.done and chance.random() < 0.8:
                desk.say("undo")
            undone = done - desk.bench.done
            book, row, deeds = desk.bench.book, desk.bench.row, desk.bench.done
            for line in ("may begin a", "may end a", "spare a", "stocks", "bars", "begin cat", "same 99", "no end cat", "wrong",
                         "may begin cat", "spare cat", "", "undo ", "morning\n"):
                try:
                    desk.say(line)
                except StockError:
                    pass
                self.assertEqual((desk.bench.book, desk.bench.row, desk.bench.done), (book, row, deeds))
            for _ in range(undone):
                self.assertEqual(desk.say("redo"), "ok")
            self.assertTrue(desk.bench == bench)
            with self.assertRaises(NothingToRedo):
                desk.say("redo")

    def test_the_bench_can_be_led_beside(self):
        desk = Desk(TEXT)
        desk.bench.let(("begin", "ann"))
        self.assertEqual((desk.say("undo"), desk.bench.row), ("ok", ()))
        with desk.bench.trial():
            desk.say("begin ann")
            self.assertEqual(desk.bench.row, (("begin", "ann"),))
        self.assertEqual((desk.bench.row, desk.say("redo"), desk.bench.row), ((), "ok", (("begin", "ann"),)))


class Wrong(DeskCase):
    def test_no_line(self):
        wrong = any_values() + [
            "", " ", "begin", "begin ", " begin ann", "begin  ann", "begin ann ", "begin ann bob", "Begin ann", "no", "no begin",
            "no begin ", "no  begin ann", "no begin ann ", "no no begin ann", "no morning", "no same 0", "same", "same ", "same 00",
            "same 01", "same -1", "same x", "same 0 0", "same  0", "same +1", "morning ", " morning", "Morning", "mornings", "may",
            "may begin", "may begin ", "may  begin ann", "may no begin ann", "may ann", "may begin ann bob", "may same 0", "spare",
            "spare ", "spare  ann", "spare ann bob", " spare ann", "stocks ", "stock", "bars ", "bar", "undo ", "redo ", "undo 1",
            "begin ann\n", "\n", "undo\nundo", "bars\n", "\nbars", "may begin ann\n", "spare ann\n", "let ann", "seen", "ok", "same\n0",
            "jobs ann bob", "let 1 0 0 0", "begin\nann", None, 5, ["undo"], ("undo",), True, b"undo"]
        for value in wrong:
            desk = Desk(TEXT + "\nbegin ann")
            with self.assertRaises(BadLine) as caught:
                desk.say(value)
            self.assertIs(caught.exception.value, value)
            self.assertEqual(journal(desk.bench), TEXT + "\nbegin ann")

    def test_jobs_are_any_words(self):
        desk = Desk(TEXT)
        for job in ("cat", "ANN", "a.b", "begin", "no", "5", "-", "ann,bob", "annannann", "%", "let"):
            for line, event in ((f"begin {job}", ("begin", job)), (f"no end {job}", ("end", job)), (f"may end {job}", ("end", job))):
                with self.assertRaises(BadEvent) as caught:
                    desk.say(line)
                self.assertEqual(caught.exception.value, event)
            with self.assertRaises(NoJob) as caught:
                desk.say(f"spare {job}")
            self.assertEqual(caught.exception.value, job)

    def test_numbers(self):
        desk = Desk(TEXT)
        for word in ("1", "24", "41", "9" * 15):
            with self.assertRaises(BadNumber) as caught:
                desk.say(f"same {word}")
            self.assertEqual((caught.exception.value, type(caught.exception.value)), (int(word), int))
        self.assertEqual(desk.say("same 0"), "ok")

    def test_nothing_to_undo(self):
        desk = Desk(TEXT)
        for line, error in (("undo", NothingToUndo), ("redo", NothingToRedo)):
            with self.assertRaises(error) as caught:
                desk.say(line)
            self.assertIsNone(caught.exception.value)

    def test_bad_journals(self):
        for text, number in ((TEXT[:-5], 6), ("", 2), ("seen", 1), ("jobs a\nnot 0 0\nseen", 3), (TEXT + "\nundo", 7), (None, 0),
                             (TEXT + "\nstocks", 7), (TEXT + "\nbegin ann\nend bob", 8), (Book("jobs a"), 0), (5, 0)):
            with self.assertRaises(BadJournal) as caught:
                Desk(text)
            self.assertEqual((caught.exception.value, type(caught.exception.value)), (number, int))

    def test_models_are_led_as_desks(self):
        model = Model(Book(TEXT[:-5]))
        self.assertEqual(model.text(), TEXT)
        self.check_said(Desk(TEXT), Answers(model), "begin ann")


if __name__ == "__main__":
    unittest.main()
