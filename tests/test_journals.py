import random
import unittest

from tests.leading import Model, check, deed_of, lead, led, raised, some_deed
from tests.reading import fitted_books, seen_books
from tests.values import any_values
from unseenstocks.benches import Bench
from unseenstocks.books import Book
from unseenstocks.errors import BadBook, BadJournal, NothingToRedo
from unseenstocks.fitting import possible
from unseenstocks.journals import journal, read_journal

TEXT = "jobs ann bob\nclean ann\nlet 2 0 0 0\nlet 0 0 1 0\nnot 3 0 0 0"
DEEDS = "begin bob\nbegin ann\nno begin bob\nend bob\nsame 1\nmorning\nbegin ann\nend ann\nsame 0\nsame 2\nbegin ann"


def due(text):
    """The number that BadJournal has to tell of a value, None for a journal."""
    if type(text) is not str:
        return 0
    lines = text.split("\n")
    if "seen" not in lines:
        return len(lines) + 1
    at = lines.index("seen")
    try:
        book = Book("\n".join(lines[:at]))
    except BadBook as error:
        return error.value if at else 1
    if possible(book)[0] == "barred":
        return at + 1
    model = Model(book)
    for number, line in enumerate(lines[at + 1:], at + 2):
        deed = deed_of(line)
        if deed is None or model.do(deed) is not None:
            return number
    return None


class JournalCase(unittest.TestCase):
    def read(self, text):
        """The number that is told of a text, None if it is read back as it is."""
        try:
            bench = read_journal(text)
        except BadJournal as error:
            return error.value
        self.assertEqual(journal(bench), text)
        self.assertEqual(bench.done, len(text.split("\n")) - text.split("\n").index("seen") - 1)
        self.assertIs(raised(bench.redo).__class__, NothingToRedo)
        return None

    def check_text(self, text):
        number = self.read(text)
        self.assertEqual(number, due(text), text)
        self.assertIn(number.__class__, (int, None.__class__))
        return number


class ReadBack(JournalCase):
    def test_by_hand(self):
        bench = Bench(Book(TEXT))
        self.assertEqual(journal(bench), TEXT + "\nseen")
        for call in (lambda: bench.let(("begin", "bob")), lambda: bench.refuse(("begin", "bob")), bench.morning,
                     lambda: bench.let(("begin", "ann")), lambda: bench.let(("end", "ann")), lambda: bench.same(0),
                     lambda: bench.same(2), bench.morning, bench.undo):
            call()
        self.assertEqual(
            journal(bench),
            TEXT + "\nseen\nbegin bob\nno begin bob\nmorning\nbegin ann\nend ann\nsame 0\nsame 2")
        self.assertEqual(self.check_text(journal(bench)), None)
        self.assertEqual(journal(bench=bench), journal(bench))
        self.assertTrue(read_journal(text=journal(bench)) == bench)

    def test_what_is_read_back_is_equal(self):
        chance = random.Random(290)
        for book in fitted_books(291, 40, (4, 2, 1), 3) + seen_books(291, 20):
            bench, model = led(chance, book, chance.randint(0, 40))
            for _ in range(chance.randint(0, 3)):
                raised(bench.undo), model.undo()
            self.assertEqual(self.check_text(journal(bench)), None)
            other = read_journal(journal(bench))
            check(self, other, model)
            self.assertTrue(other == bench)
            for _ in range(10):
                deed = some_deed(chance, model.book, model.row)
                self.assertIs(raised(lambda: lead(other, deed)).__class__, raised(lambda: lead(bench, deed)).__class__)
                model.do(deed)
                check(self, other, model)
                check(self, bench, model)
            while model.deeds:
                other.undo(), model.undo()
                check(self, other, model)

    def test_what_was_undone_or_tried_is_not_told(self):
        bench = Bench(Book("jobs a"))
        bench.let(("begin", "a"))
        bench.let(("end", "a"))
        bench.undo()
        with bench.trial():
            bench.redo()
            bench.morning()
            self.assertEqual(journal(bench), "jobs a\nseen\nbegin a\nend a\nmorning")
        self.assertEqual(journal(bench), "jobs a\nseen\nbegin a")
        bench.undo()
        self.assertEqual(journal(bench), "jobs a\nseen")

    def test_the_first_book_is_told_as_it_was(self):
        book = Book("jobs b a\nfree a\nclean b\nlet 0 0 1 0")
        self.assertEqual(journal(Bench(book.untold(0))), "jobs b a\nfree a\nclean b\nseen")
        bench = Bench(book)
        bench.let(("begin", "a"))
        self.assertEqual(journal(bench), book.text + "\nseen\nbegin a")

    def test_six_thousand_characters(self):
        book = "jobs a b\nas 1 1 0 0 to 0 0 0 0"
        for line in ("morning", "same 0", "begin a\nend a\nmorning", "begin b\nno end b\nmorning", "begin a\nsame 0\nend a"):
            lines = [book, "seen"]
            while len("\n".join(lines + [line])) <= 6000:
                lines.append(line)
            text = "\n".join(lines)
            self.assertGreater(len(text), 5900)
            self.check_text(text)
        lines = [f"let {number} {number // 2} {40 - number} 0" for number in range(24)]
        full = "\n".join(["jobs a b"] + lines + [f"not 40 0 40 {number}" for number in range(6)] + ["seen"])
        text = full + "\nmorning" * ((6000 - len(full)) // 8)
        self.assertEqual(self.check_text(text), None)


class Wrong(JournalCase):
    def test_no_string(self):
        for value in any_values() + [(), None, 0, ["jobs a", "seen"], Book("jobs a"), Bench(Book("jobs a"))]:
            if not isinstance(value, str):
                self.assertEqual(self.read(value), 0)

    def test_by_hand(self):
        for text, number in (
                ("", 2), ("jobs a", 2), ("\n", 3), ("jobs a\nlet 1 0\nbegin a", 4), ("wrong\nseen ", 3), ("seen", 1),
                ("seen\njobs a", 1), ("seen\nseen", 1), ("\nseen", 1), ("jobs a\nseen", None), ("jobs a\n\nseen", 2),
                ("jobs a\nlet 1 0\nlet 1 0\nseen", 3), ("jobs a\nnot 0 0\nseen", 3), ("jobs a\nlet 3 0\nnot 2 0\nseen\nwrong", 4),
                ("jobs a\nseen\n", 3), ("jobs a\nseen\nseen", 3), ("jobs a\nseen\nbegin a\nseen\nbegin a", 4),
                ("jobs a\nseen\nend a", 3), ("jobs a\nseen\nbegin b", 3), ("jobs a\nseen\nbegin a\nend a\nend a", 5),
                ("jobs a\nseen\nsame 0\nsame 1", 4), ("jobs a\nseen\nbegin a\nsame 1\nsame 2", 5), ("jobs a\nseen\nsame 00", 3),
                ("jobs a\nseen\nbegin a\nsame 01", 4), ("jobs a\nseen\nsame", 3), ("jobs a\nseen\nsame -1", 3),
                ("jobs a\nseen\nno begin a\nbegin a", 4), ("jobs a\nseen\nbegin a\nno begin a\nno begin a", None),
                ("jobs a\nseen\nundo", 3), ("jobs a\nseen\nmorning\nredo", 4), ("jobs a\nseen\nlet 1 0", 3),
                ("jobs a\nseen\nmay begin a", 3), ("jobs a\nseen\nno morning", 3), ("jobs a\nseen\nno same 0", 3),
                ("jobs a\nseen\nbegin  a", 3), ("jobs a\nseen\n begin a", 3), ("jobs a\nseen\nbegin a ", 3),
                ("jobs a\nseen\nno  begin a", 3), ("jobs a\nseen\nmorning ", 3), ("jobs a\nseen\nbegin", 3),
                ("jobs a\nseen\nno begin", 3), ("jobs a\nseen\nno no begin a", 3), ("jobs a\nseen\nBegin a", 3),
                ("jobs a\nseen\nbegin a b", 3), ("jobs a\nseen\nMorning", 3), ("jobs a\nSeen", 3), ("jobs a\nseen \nseen", 2),
                ("jobs a\nseen\nsame 1x", 3), ("jobs a\nseen\nsame +0", 3), ("jobs a\nseen\nsame 0 0", 3),
                ("jobs no end\nseen\nbegin no\nbegin end\nno begin no\nend end", None),
                ("jobs seen\nseen\nbegin seen\nseen", 4), ("jobs a\nseen\nsame " + "9" * 15, 3),
                ("jobs a\nseen\nsame " + "9" * 5000, 3)):
            self.assertEqual(self.read(text), number, text)
            if "9" * 15 not in text:
                self.assertEqual(due(text), number, text)

    def test_lines_out_twice_exchanged_and_put_in(self):
        lines = (TEXT + "\nseen\n" + DEEDS).split("\n")
        self.assertEqual(due("\n".join(lines)), None)
        put_in = ["", "seen", "morning", "same 0", "same 9", "begin ann", "end bob", "no begin bob", "let 1 0 0 0", "jobs ann bob",
                  "not 0 0 0 0", "wrong", "spent bob", "undo"]
        numbers = set()
        for at in range(len(lines) + 1):
            texts = [lines[:at] + [line] + lines[at:] for line in put_in]
            if at < len(lines):
                texts += [lines[:at] + lines[at + 1:], lines[:at] + [lines[at]] + lines[at:], lines[:at], lines[at:]]
                texts += [lines[:at] + [lines[at].replace(" ", "  ")] + lines[at + 1:]]
                texts += [lines[:at] + [wrong] + lines[at + 1:] for wrong in (lines[at] + " ", " " + lines[at], lines[at].upper())]
                for to in range(at):
                    texts.append(lines[:to] + [lines[at]] + lines[to + 1:at] + [lines[to]] + lines[at + 1:])
            for text in texts:
                numbers.add(self.check_text("\n".join(text)))
        self.assertGreater(len(numbers), 15)

    def test_some_texts(self):
        chance = random.Random(292)
        numbers = {}
        for book in fitted_books(293, 60, (3, 2, 1), 3):
            text = journal(led(chance, book, chance.randint(0, 20))[0])
            for _ in range(30):
                at = chance.randrange(len(text))
                changed = chance.choice((text[:at] + text[at + 1:], text[:at] + chance.choice("0 1abn\ns") + text[at:]))
                number = self.check_text(changed)
                numbers[number is None] = numbers.get(number is None, 0) + 1
        self.assertGreater(min(numbers.values()), 10)

    def test_each_character(self):
        text = "jobs a\nclean a\nlet 1 0\nseen\nbegin a\nsame 1\nno begin a\nend a\nsame 0\nmorning"
        for at in range(len(text)):
            for other in ("", " ", "\n", "0", "a", text[at] * 2):
                self.check_text(text[:at] + other + text[at + 1:])

    def test_no_shop_fits_the_first_book(self):
        for facts in ("not 0 0", "let 2 0\nnot 1 0", "let 4 0\nlet 5 0\nnot 9 0\nnot 5 1"):
            text = "jobs a\n" + facts + "\nseen"
            for more in ("", "\nbegin a", "\nwrong", "\nseen"):
                self.assertEqual(self.read(text + more), len(text.split("\n")))

    def test_deeds_that_are_refused(self):
        full = "jobs a\n" + "\n".join(f"let {number} 0" for number in range(2, 26)) + "\nseen"
        self.assertEqual(self.check_text(full + "\nsame 0\nbegin a"), 28)
        self.assertEqual(self.check_text("jobs a\nlet 2 0\nseen\nbegin a\nbegin a\nbegin a\nno end a"), 7)
        day = "\nbegin a\nend a" * 12
        self.assertEqual(self.check_text("jobs a\nas 1 1 to 0 0\nlet 1 0\nseen" + day + "\nmorning"), None)
        self.assertEqual(self.check_text("jobs a\nas 1 1 to 0 0\nlet 1 0\nseen" + day + "\nbegin a"), 29)


if __name__ == "__main__":
    unittest.main()
