import random
import unittest

from tests.leading import Model, check, check_error, fact_of, lead, led, line_of, raised, some_deed
from tests.reading import fitted_books, seen_books, some_claim
from tests.values import any_values, spoiled
from unseenstocks.benches import Bench
from unseenstocks.books import Book
from unseenstocks.days import heard, standings
from unseenstocks.errors import (
    BadClaim, BadEvent, BadNumber, Contrary, Full, NoShop, NothingToRedo, NothingToUndo, NoTrial, StockError)
from unseenstocks.journals import journal, read_journal
from unseenstocks.judging import judged

BOOK = Book("jobs ann bob\nclean ann\nlet 2 0 0 0\nlet 0 0 1 0\nnot 3 0 0 0")
NONE = Book("jobs ann bob\nnot 0 0 0 0")
ANN, BOB, END_ANN, END_BOB = ("begin", "ann"), ("begin", "bob"), ("end", "ann"), ("end", "bob")


class Stop(Exception):
    """An error that is none of the package's own."""


def whole(bench):
    """All that a bench is, what can be done again too: a copy is led back and on."""
    other = bench.copy()
    found = [(other.book.text, other.row, other.done, journal(other))]
    while raised(other.redo) is None:
        found.append((other.book.text, other.row, other.done, journal(other)))
    while raised(other.undo) is None:
        found.append((other.book.text, other.row, other.done, journal(other)))
    return found


class Example(unittest.TestCase):
    def test_example_of_the_document(self):
        bench = Bench(BOOK)
        self.assertIsNone(bench.let(BOB))
        self.assertIsNone(bench.let(ANN))
        self.assertEqual(
            [bench.row, len(bench.book), bench.coming()[0], bench.judged(("lets", ((1, 1), (1, 0))))[0], bench.done],
            [(BOB, ANN), 4, (ANN, "open"), "always", 2])


class Deeds(unittest.TestCase):
    def test_what_deeds_came_to(self):
        chance = random.Random(270)
        errors = {}
        for book in fitted_books(271, 60, (4, 2, 1), 3) + seen_books(271, 30):
            bench, model = Bench(book), Model(book)
            for _ in range(60):
                deed = some_deed(chance, model.book, model.row)
                before = (model.book, model.row)
                error, due = raised(lambda: lead(bench, deed)), model.do(deed)
                fact = fact_of(*before, deed) if isinstance(due, Contrary) else None
                check_error(self, error, due, before[0], fact)
                check(self, bench, model)
                errors[due.__class__.__name__] = errors.get(due.__class__.__name__, 0) + 1
        self.assertGreater(min(errors[name] for name in ("NoneType", "BadEvent", "BadNumber", "Full", "Contrary")), 10)

    def test_as_a_day_is_heard(self):
        chance = random.Random(272)
        for book in fitted_books(273, 40, (3, 2, 0), 3):
            bench, notes = Bench(book), []
            for _ in range(14):
                deed = some_deed(chance, bench.book, bench.row)
                if deed[0] != "morning" and raised(lambda: lead(bench, deed)) is None:
                    notes.append({"let": deed[1], "refuse": ("no",) + tuple(deed[1] if deed[0] != "same" else ()),
                                  "same": ("as", deed[1])}[deed[0]])
            self.assertEqual(bench.book, heard(book, tuple(notes)))
            self.assertEqual(bench.row, tuple(note for note in notes if note[0] in ("begin", "end")))

    def test_by_hand(self):
        bench = Bench(BOOK)
        self.assertEqual((bench.book, bench.row, bench.done), (BOOK, (), 0))
        for call, row, lines in (
                (lambda: bench.let(ANN), (ANN,), ["let 1 0 0 0"]), (lambda: bench.refuse(BOB), (ANN,), ["not 1 0 1 0"]),
                (lambda: bench.let(END_ANN), (ANN, END_ANN), ["let 1 1 0 0"]),
                (lambda: bench.same(0), (ANN, END_ANN), ["as 1 1 0 0 to 0 0 0 0"]),
                (lambda: bench.same(2), (ANN, END_ANN), []), (lambda: bench.morning(), (), []),
                (lambda: bench.let(ANN), (ANN,), []), (lambda: bench.morning(), (), []), (lambda: bench.morning(), (), []),
                (lambda: bench.same(0), (), [])):
            text, done = bench.book.text, bench.done
            self.assertIsNone(call())
            self.assertEqual((bench.row, bench.done), (row, done + 1))
            self.assertEqual(bench.book.text, "\n".join([text] + lines))

    def test_facts_told_already_are_let(self):
        lets = [f"let {number} 0" for number in range(1, 25)]
        nots = [f"not {number} 0" for number in range(30, 36)]
        backs = [f"as {number} {number} to 0 0" for number in range(1, 5)]
        bench = Bench(Book("\n".join(["jobs a"] + lets + nots + backs)))
        text = bench.book.text
        for _ in range(24):
            bench.let(("begin", "a"))
        self.assertEqual((bench.book.text, bench.done, len(bench.row)), (text, 24, 24))
        bench.morning()
        for deed, error in ((("let", ("begin", "a")), None), (("same", 0), Full(4)), (("same", 1), None),
                            (("let", ("end", "a")), Full(24)), (("refuse", ("end", "a")), Full(6)),
                            (("refuse", ("begin", "a")), Full(6))):
            check_error(self, raised(lambda: lead(bench, deed)), error)
        self.assertEqual((bench.book.text, bench.row, bench.done), (text, (("begin", "a"),), 27))
        known = Bench(Book("\n".join(["jobs a", "not 2 0", "let 1 0"] + nots[1:] + ["as 1 1 to 0 0"] + backs[1:])))
        for deed in (("let", ("begin", "a")), ("refuse", ("begin", "a")), ("refuse", ("begin", "a")), ("let", ("end", "a")),
                     ("same", 0)):
            self.assertIsNone(raised(lambda: lead(known, deed)))
        self.assertEqual(len(known.book), 12)
        self.assertIs(raised(lambda: known.same(1)).__class__, Full)

    def test_full_comes_ahead_of_contrary_and_bad_event_ahead_of_full(self):
        lets = [f"let {number} 0 0 0" for number in range(1, 24)]
        book = Book("\n".join(["jobs a b"] + lets + ["let 0 0 2 0", "not 0 0 9 0"]))
        bench = Bench(book)
        self.assertIs(raised(lambda: bench.let(("begin", "c"))).__class__, BadEvent)
        self.assertEqual(raised(lambda: bench.let(("begin", "b"))).value, 24)
        self.assertIs(raised(lambda: bench.refuse(("begin", "b"))).__class__, Contrary)
        for number in range(10, 15):
            book = book.told(("not", ((0, 0), (number, 0))))
        bench = Bench(book)
        self.assertEqual(raised(lambda: bench.refuse(("begin", "b"))).value, 6)
        self.assertIs(raised(lambda: bench.refuse(("end", "b"))).__class__, BadEvent)

    def test_contrary_by_hand(self):
        bench = Bench(BOOK)
        bench.let(ANN)
        bench.let(ANN)
        self.assertEqual(raised(lambda: bench.let(ANN)).value[0], 2)
        self.assertIs(raised(lambda: bench.refuse(END_ANN)).__class__, Contrary)
        self.assertEqual(raised(lambda: bench.refuse(END_ANN)).value[0], 4)
        other = Bench(Book("jobs a\nnot 2 0"))
        other.let(("begin", "a"))
        self.assertIs(raised(lambda: other.same(0)).__class__, Contrary)
        self.assertEqual((other.book.text, other.row, other.done), ("jobs a\nnot 2 0\nlet 1 0", (("begin", "a"),), 1))

    def test_what_is_refused_changes_nothing(self):
        chance = random.Random(274)
        refused = 0
        for book in fitted_books(275, 25, (4, 3, 1), 2, (1, 2)):
            bench, _ = led(chance, book, 12)
            for _ in range(chance.randint(0, 4)):
                raised(bench.undo)
            before = whole(bench)
            for _ in range(12):
                deed = some_deed(chance, bench.book, bench.row)
                if raised(lambda: lead(bench.copy(), deed)) is not None:
                    refused += 1
                    self.assertIsNotNone(raised(lambda: lead(bench, deed)))
                    self.assertEqual(whole(bench), before)
        self.assertGreater(refused, 50)

    def test_no_event(self):
        wrong = any_values() + [()] + spoiled(ANN)
        wrong += [END_ANN, ("begin", "cat"), ("no", "begin", "ann"), ["begin", "ann"], (ANN,), "begin ann", ("Begin", "ann")]
        bench = Bench(BOOK)
        bench.let(BOB)
        bench.undo()
        for value in wrong:
            for call in (lambda: bench.let(value), lambda: bench.refuse(value)):
                error = raised(call)
                self.assertIs(error.__class__, BadEvent)
                self.assertIs(error.value, value)
        self.assertEqual((bench.book, bench.row, bench.done, raised(bench.redo)), (BOOK, (), 0, None))

    def test_no_event_behind_twenty_four(self):
        bench = Bench(Book("jobs a b\nas 1 1 0 0 to 0 0 0 0\nlet 1 0 0 0"))
        for event in (("begin", "a"), ("end", "a")) * 12:
            self.assertGreater(len(bench.coming()), 0)
            bench.let(event)
        for event in (("begin", "a"), ("end", "a"), ("begin", "b")):
            for call in (lambda: bench.let(event), lambda: bench.refuse(event)):
                self.assertIs(raised(call).value, event)
        self.assertEqual(bench.coming(), ())
        self.assertIsNone(bench.same(0))
        bench.morning()
        self.assertEqual(len(bench.coming()), 2)
        self.assertIsNone(bench.let(("begin", "a")))

    def test_no_number(self):
        bench = Bench(BOOK)
        bench.let(ANN)
        bench.let(END_ANN)
        for value in any_values() + [(), 3, -1, True, False, "0", (0,), [0], 10 ** 14, None]:
            error = raised(lambda: bench.same(value))
            self.assertIs(error.__class__, BadNumber, value)
            self.assertIs(error.value, value)
        for value in (0, 2):
            self.assertIsNone(bench.same(value))
        self.assertIs(raised(lambda: bench.same(1)).__class__, Contrary)

    def test_no_shop(self):
        for book in (NONE, Book("jobs ann bob\nlet 2 0 0 0\nnot 1 0 0 0")):
            with self.assertRaises(NoShop) as caught:
                Bench(book)
            self.assertIs(caught.exception.value, book)


class BackAndOn(unittest.TestCase):
    def test_long_rows_of_deeds(self):
        chance = random.Random(276)
        words = set()
        for book in fitted_books(277, 20, (3, 2, 1), 3) + seen_books(277, 10):
            bench, model = Bench(book), Model(book)
            for _ in range(90):
                draw = chance.random()
                if draw < 0.2:
                    error, due = raised(bench.undo), model.undo()
                    words.add(("undo", due is None))
                elif draw < 0.35:
                    error, due = raised(bench.redo), model.redo()
                    words.add(("redo", due is None))
                else:
                    deed = some_deed(chance, model.book, model.row)
                    error, due = raised(lambda: lead(bench, deed)), model.do(deed)
                self.assertIs(error.__class__, due.__class__)
                check(self, bench, model)
        self.assertEqual(len(words), 4)

    def test_ninety_deeds_undone_and_done_again(self):
        chance = random.Random(278)
        for book in fitted_books(279, 4, (3, 2, 1), 3):
            bench = Bench(book)
            states = [(bench.book.text, bench.row, bench.done)]
            while bench.done < 90:
                deed = some_deed(chance, bench.book, bench.row)
                if raised(lambda: lead(bench, deed)) is None:
                    states.append((bench.book.text, bench.row, bench.done))
            for _ in range(2):
                for at in reversed(range(90)):
                    self.assertIsNone(bench.undo())
                    self.assertEqual((bench.book.text, bench.row, bench.done), states[at])
                self.assertIs(raised(bench.undo).__class__, NothingToUndo)
                for at in range(1, 91):
                    self.assertIsNone(bench.redo())
                    self.assertEqual((bench.book.text, bench.row, bench.done), states[at])
                self.assertIs(raised(bench.redo).__class__, NothingToRedo)

    def test_nothing_to_undo_or_redo(self):
        bench = Bench(BOOK)
        for call, kind in ((bench.undo, NothingToUndo), (bench.redo, NothingToRedo)):
            error = raised(call)
            self.assertIs(error.__class__, kind)
            self.assertIsNone(error.value)
        bench.morning()
        self.assertIs(raised(bench.redo).__class__, NothingToRedo)
        bench.undo()
        self.assertIs(raised(bench.undo).__class__, NothingToUndo)
        self.assertIsNone(bench.redo())
        self.assertEqual(bench.done, 1)

    def test_another_deed_leaves_nothing_to_redo_but_one_that_is_refused_does(self):
        bench = Bench(BOOK)
        for event in (ANN, END_ANN, BOB):
            bench.let(event)
        bench.undo()
        bench.undo()
        for call in (lambda: bench.let(END_BOB), lambda: bench.same(9), lambda: bench.refuse(("end", "cat")), bench.coming,
                     lambda: bench.judged(None), bench.keep):
            try:
                call()
            except StockError:
                pass
        bench.redo()
        self.assertEqual((bench.row, bench.done), ((ANN, END_ANN), 2))
        bench.same(2)
        self.assertIs(raised(bench.redo).__class__, NothingToRedo)
        self.assertEqual((bench.row, bench.done), ((ANN, END_ANN), 3))
        bench.undo()
        bench.morning()
        self.assertIs(raised(bench.redo).__class__, NothingToRedo)


class Blocks(unittest.TestCase):
    def tried_out(self, chance, bench, model, depth):
        """Deeds, undo, redo and blocks within blocks, beside the model."""
        for _ in range(chance.randint(1, 6)):
            draw = chance.random()
            if draw < 0.3 and depth < 3:
                self.block(chance, bench, model, depth)
            elif draw < 0.45:
                self.assertIs(raised(bench.undo).__class__, model.undo().__class__)
            elif draw < 0.55:
                self.assertIs(raised(bench.redo).__class__, model.redo().__class__)
            else:
                deed = some_deed(chance, model.book, model.row)
                self.assertIs(raised(lambda: lead(bench, deed)).__class__, model.do(deed).__class__)
            check(self, bench, model)

    def block(self, chance, bench, model, depth):
        state = model.state()
        kept, error, how = chance.choice((False, True)), chance.choice((None, None, Stop, BadNumber)), chance.randint(0, 2)
        called = kept if how < 2 else chance.choice((False, True))

        def look(held):
            self.assertIs(held, bench)
            if called and chance.randint(0, 1):
                held.keep()
                self.tried_out(chance, held, model, depth + 1)
            else:
                self.tried_out(chance, held, model, depth + 1)
                if called:
                    held.keep()
            if error is not None:
                raise error(7)
            return depth

        try:
            if how == 0:
                with bench.trial() as held:
                    look(held)
            elif how == 1:
                self.assertEqual(bench.tried(look), depth)
            else:
                self.assertEqual(bench.tried(look, keep=kept), depth)
            self.assertIsNone(error)
        except (Stop, BadNumber) as caught:
            self.assertIs(caught.__class__, error)
        if error is not None or not (called or kept):
            model.put(state)
        self.found.add((error, called or kept, how))

    def test_blocks_within_blocks(self):
        chance = random.Random(280)
        self.found = set()
        for book in fitted_books(281, 40, (3, 2, 1), 3):
            bench, model = Bench(book), Model(book)
            for _ in range(6):
                self.tried_out(chance, bench, model, 0)
                self.assertIs(raised(bench.keep).__class__, NoTrial)
        self.assertEqual(len(self.found), 18)

    def test_what_can_be_undone_and_done_again_is_as_ahead_of_the_block(self):
        bench = Bench(BOOK)
        bench.let(ANN)
        bench.let(END_ANN)
        bench.undo()
        before = whole(bench)
        with bench.trial() as held:
            self.assertIs(held, bench)
            bench.redo()
            bench.let(BOB)
            for _ in range(3):
                bench.undo()
            self.assertIs(raised(bench.undo).__class__, NothingToUndo)
            bench.let(BOB)
        self.assertEqual(whole(bench), before)
        self.assertIsNone(bench.redo())
        self.assertEqual(bench.row, (ANN, END_ANN))

    def test_kept(self):
        bench = Bench(BOOK)
        bench.let(ANN)
        with bench.trial():
            bench.undo()
            self.assertIsNone(bench.keep())
            bench.let(BOB)
        self.assertEqual((bench.row, bench.done), ((BOB,), 1))
        bench.undo()
        self.assertIs(raised(bench.undo).__class__, NothingToUndo)
        bench.redo()
        with bench.trial():
            bench.undo()
            bench.keep()
        self.assertEqual(bench.row, ())
        bench.redo()
        self.assertEqual(bench.row, (BOB,))

    def test_keep_belongs_to_the_innermost_block(self):
        bench = Bench(BOOK)
        with bench.trial():
            bench.let(ANN)
            with bench.trial():
                bench.let(END_ANN)
                bench.keep()
            self.assertEqual(bench.row, (ANN, END_ANN))
        self.assertEqual(bench.row, ())
        with bench.trial():
            bench.let(ANN)
            with bench.trial():
                bench.let(END_ANN)
            self.assertEqual(bench.row, (ANN,))
            bench.keep()
        self.assertEqual(bench.row, (ANN,))
        with bench.trial():
            bench.keep()
            with bench.trial():
                bench.let(END_ANN)
            bench.let(BOB)
        self.assertEqual(bench.row, (ANN, BOB))

    def test_no_trial(self):
        bench = Bench(BOOK)
        held = bench.trial()
        for _ in range(2):
            error = raised(bench.keep)
            self.assertIs(error.__class__, NoTrial)
            self.assertIsNone(error.value)
        with held:
            self.assertIs(raised(bench.copy().keep).__class__, NoTrial)
            self.assertIsNone(bench.keep())
            self.assertIsNone(bench.keep())
        self.assertIs(raised(bench.keep).__class__, NoTrial)
        bench.tried(lambda same: None)
        self.assertIs(raised(bench.keep).__class__, NoTrial)
        with self.assertRaises(Stop):
            with bench.trial():
                raise Stop()
        self.assertIs(raised(bench.keep).__class__, NoTrial)

    def test_a_block_begins_as_it_is_entered(self):
        bench = Bench(BOOK)
        held = bench.trial()
        bench.let(ANN)
        with held:
            bench.let(BOB)
        self.assertEqual(bench.row, (ANN,))

    def test_errors_leave_nothing_and_pass_on(self):
        bench = Bench(BOOK)
        for error in (Stop(), BadNumber(3), KeyError("a"), KeyboardInterrupt()):
            with self.assertRaises(error.__class__) as caught:
                with bench.trial():
                    bench.let(ANN)
                    bench.keep()
                    raise error
            self.assertIs(caught.exception, error)
            self.assertEqual((bench.row, bench.book, bench.done), ((), BOOK, 0))

            def look(held):
                held.let(ANN)
                held.keep()
                raise error

            with self.assertRaises(error.__class__) as caught:
                bench.tried(look, keep=True)
            self.assertIs(caught.exception, error)
            self.assertEqual((bench.row, bench.book, bench.done), ((), BOOK, 0))

    def test_return_break_and_continue_are_no_errors(self):
        bench = Bench(BOOK)
        for _ in range(2):
            with bench.trial():
                bench.morning()
                bench.keep()
                continue
        for _ in range(2):
            with bench.trial():
                bench.morning()
                break
        self.assertEqual(bench.done, 2)

    def test_tried(self):
        bench = Bench(BOOK)
        for keep in any_values() + [0, 1, "True", (), [True]]:
            if keep is not True:
                self.assertEqual(bench.tried(lambda held: held.let(ANN) or held.row, keep=keep), (ANN,))
                self.assertEqual((bench.row, bench.done), ((), 0), keep)
        self.assertEqual(bench.tried(lambda held: held.let(ANN) or 5), 5)
        self.assertEqual(bench.row, ())
        self.assertEqual(bench.tried(look=lambda held: held.let(ANN) or held, keep=True), bench)
        self.assertEqual(bench.row, (ANN,))
        self.assertIsNone(bench.tried(lambda held: held.let(BOB) or held.keep(), keep=False))
        self.assertEqual(bench.row, (ANN, BOB))
        with self.assertRaises(TypeError):
            bench.tried(lambda held: None, True)


class Copies(unittest.TestCase):
    def test_independent_and_alike(self):
        chance = random.Random(282)
        for book in fitted_books(283, 20, (3, 2, 1), 3):
            bench, model = led(chance, book, 20)
            for _ in range(chance.randint(0, 3)):
                raised(bench.undo)
            other, before = bench.copy(), whole(bench)
            self.assertEqual(whole(other), before)
            self.assertTrue(other == bench)
            for _ in range(6):
                raised(lambda: lead(other, some_deed(chance, other.book, other.row)))
                raised(other.undo) if chance.random() < 0.3 else None
            self.assertEqual(whole(bench), before)
            there = whole(other)
            raised(bench.undo)
            bench.morning()
            self.assertEqual(whole(other), there)

    def test_outside_of_all_blocks(self):
        bench = Bench(BOOK)
        with bench.trial():
            bench.let(ANN)
            other = bench.copy()
            self.assertIs(raised(other.keep).__class__, NoTrial)
            with other.trial():
                other.let(BOB)
                other.keep()
            self.assertEqual((bench.row, other.row), ((ANN,), (ANN, BOB)))
        self.assertEqual((bench.row, other.row), ((), (ANN, BOB)))
        other.undo()
        other.undo()
        self.assertTrue(other == bench)


class Equal(unittest.TestCase):
    def test_just_if_their_journals_are(self):
        chance = random.Random(284)
        benches = [led(chance, book, many)[0] for book in fitted_books(285, 3, (1, 1, 0), 2, (1, 2)) for many in (0, 1, 2, 3, 4)]
        benches += [bench.copy() for bench in benches] + [read_journal(journal(bench)) for bench in benches]
        for one in benches:
            for other in benches:
                self.assertIs(one == other, journal(one) == journal(other))
                self.assertIs(one != other, journal(one) != journal(other))

    def test_other_ways_to_one_book(self):
        one, other = Bench(BOOK), Bench(BOOK)
        one.let(ANN)
        one.undo()
        self.assertTrue(one == other)
        one.morning()
        self.assertFalse(one == other)
        other.morning()
        self.assertTrue(one == other)
        self.assertFalse(Bench(BOOK.told(("let", ((1, 0), (0, 0))))) == Bench(BOOK))
        one.same(0)
        other.let(ANN)
        self.assertFalse(one == other)

    def test_equal_to_nothing_else(self):
        bench = Bench(BOOK)
        for value in any_values() + [(), journal(bench), BOOK, BOOK.text, bench.row, [bench], (bench,)]:
            self.assertIs(bench == value, False)
            self.assertIs(bench != value, True)


class Asked(unittest.TestCase):
    def test_coming_and_judged(self):
        chance = random.Random(286)
        words = set()
        for book in fitted_books(287, 30, (4, 2, 1), 3):
            bench, model = Bench(book), Model(book)
            for _ in range(12):
                draw = chance.random()
                if draw < 0.2:
                    raised(bench.undo), model.undo()
                elif draw < 0.3:
                    raised(bench.redo), model.redo()
                else:
                    deed = some_deed(chance, model.book, model.row)
                    raised(lambda: lead(bench, deed)), model.do(deed)
                self.asked(chance, bench, model)
                with bench.trial():
                    raised(lambda: bench.let(("begin", book.jobs[0])))
                self.asked(chance, bench, model)
                words.update(word for _, word in bench.coming())
        self.assertEqual(words, {"always", "never", "open"})

    def asked(self, chance, bench, model):
        right = []
        for job in model.book.jobs:
            for event in (("begin", job), ("end", job)):
                if raised(lambda: bench.copy().let(event)).__class__ is not BadEvent:
                    standing = standings(model.book, model.row + (event,))[-1]
                    right.append((event, judged(model.book, ("lets", standing))[0]))
        self.assertEqual(bench.coming(), tuple(right))
        claim = some_claim(chance, model.book, 3)
        self.assertEqual(bench.judged(claim), judged(model.book, claim))
        self.assertEqual(bench.judged(claim=claim), judged(model.book, claim))
        check(self, bench, model)

    def test_no_claim(self):
        bench = Bench(BOOK)
        for value in any_values() + spoiled(("lets", ((1, 0), (1, 0)))):
            error = raised(lambda: bench.judged(value))
            self.assertIs(error.__class__, BadClaim)
            self.assertIs(error.value, value)

    def test_lines_of_deeds(self):
        bench = Bench(BOOK)
        deeds = [("let", ANN), ("refuse", BOB), ("same", 0), ("morning",), ("let", BOB)]
        done = [deed for deed in deeds if raised(lambda: lead(bench, deed)) is None]
        self.assertEqual(journal(bench).split("\n")[6:], [line_of(deed) for deed in done])


if __name__ == "__main__":
    unittest.main()
