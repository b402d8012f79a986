"""Journals: the book with which a bench began, and the deeds that stand, line by line."""

from unseenstocks.benches import Bench, journal_lines
from unseenstocks.books import Book
from unseenstocks.errors import BadBook, BadJournal, NoShop, StockError
from unseenstocks.forms import is_numeral

# Nothing is told of longer numbers; Python itself does not read words of some thousand figures.
MOST_FIGURES = 1000


def journal(bench):
    """The journal of a bench."""
    return "\n".join(journal_lines(bench))


def read_journal(text):
    """A Bench on which the deeds of a journal were done."""
    if not isinstance(text, str):
        raise BadJournal(0)
    lines = text.split("\n")
    if "seen" not in lines:
        raise BadJournal(len(lines) + 1)
    at = lines.index("seen")
    bench = first_bench(lines[:at])
    for number in range(at + 1, len(lines)):
        if not is_done(bench, lines[number]):
            raise BadJournal(number + 1)
    return bench


def first_bench(lines):
    """The Bench that begins with the book of some lines, behind which a line seen stands."""
    try:
        book = Book("\n".join(lines))
    except BadBook as wrong:
        raise BadJournal(wrong.value) from None
    try:
        return Bench(book)
    except NoShop:
        raise BadJournal(len(lines) + 1) from None


def is_done(bench, line):
    """Do what a line tells, and tell whether it is a deed that was not refused."""
    try:
        return do_deed(bench, line)
    except StockError:
        return False


def do_deed(bench, line):
    """Do what a line tells, and tell whether it has the form of a deed."""
    words = line.split(" ")
    if line == "morning":
        bench.morning()
    elif is_event_told(words):
        bench.let(tuple(words))
    elif words[0] == "no" and is_event_told(words[1:]):
        bench.refuse(tuple(words[1:]))
    elif len(words) == 2 and words[0] == "same" and is_numeral(words[1]) and len(words[1]) <= MOST_FIGURES:
        bench.same(int(words[1]))
    else:
        return False
    return True


def is_event_told(words):
    """Whether words have the form of an event, of whatever job."""
    return len(words) == 2 and words[0] in ("begin", "end") and words[1] != ""
