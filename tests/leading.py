"""A bench as the document tells it: the deeds that stand are done anew from the first book on, whenever it is asked."""

import re

from tests.reading import is_barred, manners_of
from unseenstocks.benches import Bench
from unseenstocks.days import standings
from unseenstocks.errors import BadEvent, BadNumber, BadRow, Contrary, Full, NothingToRedo, NothingToUndo, StockError
from unseenstocks.fitting import possible
from unseenstocks.journals import journal


class Model:
    """Deeds are tuples: ("let", event), ("refuse", event), ("same", number), ("morning",)."""

    def __init__(self, book):
        self.begun, self.deeds, self.undone = book, [], []
        self.book, self.row = book, ()

    def state(self):
        """All that a bench is, to be had again with put."""
        return list(self.deeds), list(self.undone), self.book, self.row

    def put(self, state):
        self.deeds, self.undone, self.book, self.row = list(state[0]), list(state[1]), state[2], state[3]

    def replay(self):
        self.book, self.row = self.begun, ()
        for deed in self.deeds:
            self.book, self.row = behind_deed(self.book, self.row, deed)

    def do(self, deed):
        """The error that is due, with its value, or None if the deed stands now."""
        try:
            self.book, self.row = behind_deed(self.book, self.row, deed)
        except StockError as error:
            return error
        self.deeds, self.undone = self.deeds + [deed], []
        return None

    def undo(self):
        if not self.deeds:
            return NothingToUndo(None)
        self.undone.append(self.deeds.pop())
        self.replay()
        return None

    def redo(self):
        if not self.undone:
            return NothingToRedo(None)
        self.deeds.append(self.undone.pop())
        self.replay()
        return None

    def text(self):
        return "\n".join([self.begun.text, "seen"] + [line_of(deed) for deed in self.deeds])


def behind_deed(book, row, deed):
    """The book and the row behind a deed."""
    if deed[0] == "morning":
        return book, ()
    passed = (book.first,) + standings(book, row)
    if deed[0] == "same":
        if type(deed[1]) is not int or not 0 <= deed[1] <= len(row):
            raise BadNumber(deed[1])
        if passed[deed[1]] != passed[-1]:
            book = fitted(book.told(("as", passed[-1], passed[deed[1]])))
        return book, row
    try:
        standing = standings(book, row + (deed[1],))[-1]
    except BadRow:
        raise BadEvent(deed[1])
    if deed[0] == "refuse":
        return fitted(book.told(("not", standing))), row
    return fitted(book.told(("let", standing))), row + (deed[1],)


def fitted(book):
    found = possible(book)
    if found[0] == "barred":
        raise Contrary(found[1:])
    return book


def line_of(deed):
    if deed[0] == "morning":
        return "morning"
    if deed[0] == "same":
        return f"same {deed[1]}"
    return ("" if deed[0] == "let" else "no ") + " ".join(deed[1])


def lead(bench, deed):
    """Do a deed on a bench."""
    return getattr(bench, deed[0])(*deed[1:])


def raised(call):
    """The error of a call, None if there is none; it has to return None then."""
    try:
        told = call()
    except StockError as error:
        return error
    assert told is None, told
    return None


def check(case, bench, model):
    """Whether a bench is what the model is."""
    case.assertEqual((bench.book.text, bench.row, bench.done), (model.book.text, model.row, len(model.deeds)))
    case.assertEqual(journal(bench), model.text())


def check_error(case, error, due, book=None, fact=None):
    """Whether an error is what is due: the same class with the very value, or with another right paper."""
    case.assertIs(error.__class__, due.__class__, (error, due))
    if isinstance(due, Contrary):
        told = book.told(fact)
        case.assertTrue(type(error.value) is tuple and len(error.value) == 2)
        case.assertTrue(is_barred(manners_of(told), told.facts, *error.value))
    elif isinstance(due, Full):
        case.assertEqual(error.value, due.value)
    elif due is not None:
        case.assertIs(error.value, due.value)


def fact_of(book, row, deed):
    """The fact that a deed tells."""
    if deed[0] == "same":
        passed = (book.first,) + standings(book, row)
        return ("as", passed[-1], passed[deed[1]])
    return ("let" if deed[0] == "let" else "not", standings(book, row + (deed[1],))[-1])


def some_deed(chance, book, row):
    """A deed, most such that can be done."""
    draw = chance.random()
    if draw < 0.06:
        return ("morning",)
    if draw < 0.2:
        return ("same", chance.choice((0, 0, len(row), chance.randint(-1, 3), True, None)))
    job = chance.choice(book.jobs + ("cat",) if chance.random() < 0.1 else book.jobs)
    return (chance.choice(("let", "let", "let", "refuse")), (chance.choice(("begin", "end")), job))


def led(chance, book, many):
    """A bench behind so many tries of deeds, and its model."""
    bench, model = Bench(book), Model(book)
    for _ in range(many):
        deed = some_deed(chance, model.book, model.row)
        raised(lambda: lead(bench, deed))
        model.do(deed)
    return bench, model


def deed_of(line):
    """The deed that a line of a journal tells, None for what is no such line."""
    if line == "morning":
        return ("morning",)
    told = re.fullmatch("(no )?(begin|end) ([^ \n]+)", line)
    if told:
        return ("refuse" if told[1] else "let", (told[2], told[3]))
    told = re.fullmatch("same (0|[1-9][0-9]*)", line)
    return ("same", int(told[1])) if told else None
