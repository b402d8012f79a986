"""A bench: a book and a day that goes on, led by deeds that can be undone, done again, and tried."""

from unseenstocks.books import grown
from unseenstocks.days import MOST_EVENTS, behind, row_standings
from unseenstocks.errors import BadEvent, BadNumber, Contrary, NothingToRedo, NothingToUndo, NoTrial
from unseenstocks.fitting import fitting, fitting_stocks
from unseenstocks.forms import is_number
from unseenstocks.judging import judged


class Bench:
    """A book and the row of a day as deeds led to them.

    The deeds are kept as the lines that journals have of them, those that were undone behind those that stand. The
    states are the book and the row behind the first 0, 1, .. of them. Books and tuples never change: so to go back
    is to have again what there was.
    """

    def __init__(self, book):
        fitting_stocks(book)
        self.book = book
        self.row = ()
        self.done = 0
        self.deeds = ()
        self.states = ((book, ()),)
        self.block = None

    def let(self, event):
        """An event was let."""
        fact = ("let", standing_behind(self, event))
        lead(self, " ".join(event), with_fact(self.book, fact), self.row + (event,))

    def refuse(self, event):
        """An event was refused, and the day goes on without it."""
        fact = ("not", standing_behind(self, event))
        lead(self, "no " + " ".join(event), with_fact(self.book, fact), self.row)

    def same(self, number):
        """All stocks are as they were behind so many events of the row."""
        passed = day_standings(self)
        if not is_number(number, len(passed)):
            raise BadNumber(number)
        book = self.book
        if passed[number] != passed[-1]:
            book = with_fact(book, ("as", passed[-1], passed[number]))
        lead(self, f"same {number}", book, self.row)

    def morning(self):
        """Another day begins."""
        lead(self, "morning", self.book, ())

    def judged(self, claim):
        """What judged tells of a claim and the book as it is now."""
        return judged(self.book, claim)

    def coming(self):
        """The events that can come next, each with what judged tells first of the standing behind it."""
        found = []
        for job in self.book.jobs:
            for event in (("begin", job), ("end", job)):
                standing = next_standing(self, event)
                if standing is not None:
                    found.append((event, judged(self.book, ("lets", standing))[0]))
        return tuple(found)

    def undo(self):
        """Take the last deed back that stands."""
        if self.done == 0:
            raise NothingToUndo(None)
        move(self, self.done - 1)

    def redo(self):
        """Do the deed again that was taken back last."""
        if self.done == len(self.deeds):
            raise NothingToRedo(None)
        move(self, self.done + 1)

    def trial(self):
        """A block to be entered by with, behind which the bench is as ahead of it, unless it is kept."""
        return Trial(self)

    def keep(self):
        """Keep what the innermost block comes to."""
        if self.block is None:
            raise NoTrial(None)
        self.block.kept = True

    def tried(self, look, *, keep=False):
        """What a function returns that is called with the bench within a block."""
        with self.trial() as held:
            found = look(held)
            if keep is True:
                held.keep()
        return found

    def copy(self):
        """An independent bench, alike in all things, itself outside of all blocks."""
        made = Bench(self.states[0][0])
        made.deeds = self.deeds
        made.states = self.states
        move(made, self.done)
        return made

    def __eq__(self, other):
        return isinstance(other, Bench) and journal_lines(self) == journal_lines(other)


class Trial:
    """A block of a bench: what the bench was as it was entered, and whether it is kept (None if not)."""

    def __init__(self, bench):
        self.bench = bench
        self.kept = None

    def __enter__(self):
        bench = self.bench
        self.around = bench.block
        self.book = bench.book
        self.row = bench.row
        self.done = bench.done
        self.deeds = bench.deeds
        self.states = bench.states
        bench.block = self
        return bench

    def __exit__(self, kind, value, trace):
        bench = self.bench
        bench.block = self.around
        if kind is not None or self.kept is None:
            bench.book = self.book
            bench.row = self.row
            bench.done = self.done
            bench.deeds = self.deeds
            bench.states = self.states


def journal_lines(bench):
    """The text of the book with which a bench began, what parts it from the deeds, and the deeds that stand."""
    return [bench.states[0][0].text, "seen"] + list(bench.deeds[:bench.done])


def lead(bench, line, book, row):
    """Let a deed stand behind those that do; what was undone can't be done again then."""
    bench.deeds = bench.deeds[:bench.done] + (line,)
    bench.states = bench.states[:bench.done + 1] + ((book, row),)
    move(bench, bench.done + 1)


def move(bench, done):
    """Let so many of the deeds of a bench stand."""
    bench.done = done
    bench.book, bench.row = bench.states[done]


def day_standings(bench):
    """The standings behind the first 0, 1, .. events of the row."""
    return (bench.book.first,) + row_standings(bench.book, bench.row)


def next_standing(bench, event):
    """The standing behind an event as the next one of the day, or None for what can't come now."""
    if len(bench.row) == MOST_EVENTS:
        return None
    return behind(bench.book, day_standings(bench)[-1], event)


def standing_behind(bench, event):
    """The standing behind an event that can come now."""
    standing = next_standing(bench, event)
    if standing is None:
        raise BadEvent(event)
    return standing


def with_fact(book, fact):
    """The Book, which some shop fits, with a fact that can be so in such a shop."""
    if fact in book.facts:
        return book
    told = grown(book, [fact])
    found = fitting(told.manners, told.facts)
    if found[0] == "barred":
        raise Contrary(found[1:])
    return told
