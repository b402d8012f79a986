"""Rows of events, and days of notes that tell a book facts."""

from unseenstocks.books import grown
from unseenstocks.errors import BadDay, BadRow
from unseenstocks.forms import is_event, is_number, is_word

MOST_EVENTS = 24
MOST_NOTES = 24


def standings(book, row):
    """The standings behind the events of a row, one for each."""
    passed = row_standings(book, row)
    if passed is None:
        raise BadRow(row)
    return passed


def row_standings(book, value):
    """The standings behind the events of a value, or None if it is no row."""
    if not isinstance(value, tuple) or len(value) > MOST_EVENTS:
        return None
    passed = [book.first]
    for event in value:
        standing = behind(book, passed[-1], event)
        if standing is None:
            return None
        passed.append(standing)
    return tuple(passed[1:])


def behind(book, standing, event):
    """The standing behind an event, or None for what is no event that can come at this standing."""
    if not is_event(event, book.jobs):
        return None
    word, job = event
    at = book.jobs.index(job)
    begun, ended = standing[at]
    if word == "begin":
        pair = (begun + 1, ended)
    elif ended < begun:
        pair = (begun, ended + 1)
    else:
        return None
    return standing[:at] + (pair,) + standing[at + 1:]


def heard(book, day):
    """The Book with the facts of the notes of a day."""
    return grown(book, day_facts(book, day))


def day_facts(book, day):
    """The facts of the notes of a day, in sequence.

    The whole day is read before any of them is told: BadDay comes ahead of Full.
    """
    if not isinstance(day, tuple) or len(day) > MOST_NOTES:
        raise BadDay(day)
    passed = [book.first]
    facts = []
    for note in day:
        fact = read_note(book, passed, note)
        if fact is None:
            raise BadDay(day)
        if fact[0] == "let":
            passed.append(fact[1])
        if fact[0] != "as" or fact[1] != fact[2]:
            facts.append(fact)
    return facts


def read_note(book, passed, note):
    """What a note tells, or None for what is no note here: a fact, or an as of two equal standings.

    What passed holds are the standings behind the first 0, 1, .. events that were let on this day.
    """
    if not isinstance(note, tuple) or len(note) < 2:
        return None
    if is_word(note[0], ("as",)):
        return read_same(passed, note)
    kind = "let"
    event = note
    if is_word(note[0], ("no",)):
        kind = "not"
        event = note[1:]
    standing = behind(book, passed[-1], event)
    if standing is None:
        return None
    return (kind, standing)


def read_same(passed, note):
    """What a note tells that begins with as, or None if it is none."""
    if len(note) != 2 or not is_number(note[1], len(passed)):
        return None
    return ("as", passed[-1], passed[note[1]])
