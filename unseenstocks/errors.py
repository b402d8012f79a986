"""The errors of the package. Each keeps what it was created with as value."""


class StockError(ValueError):
    """What every error of the package is."""

    def __init__(self, value):
        self.value = value


class BadBook(StockError):
    """A text is no book; the value is the number of its first wrong line, 0 for what is no string."""


class NoJob(StockError):
    """The value is no job of the book."""


class BadFact(StockError):
    """The value is no fact of the book's jobs."""


class Full(StockError):
    """A book has as many facts of one kind as it can have; the value is this number."""


class NoFact(StockError):
    """The value is no number of a fact."""


class OtherJobs(StockError):
    """The value has other jobs, or other manners."""


class BadRow(StockError):
    """The value is no row."""


class BadDay(StockError):
    """The value is no day."""


class BadStocks(StockError):
    """The value is no tuple of stocks that a shop can have."""


class NoStock(StockError):
    """The value is no number of a stock."""


class BadStanding(StockError):
    """The value is no standing."""


class NoShop(StockError):
    """No shop fits the value, a book."""


class BadClaim(StockError):
    """The value is no claim."""


class NotSure(StockError):
    """The value is a standing that is not sure."""


class BadLap(StockError):
    """The value is no lap."""


class BadLot(StockError):
    """The value is no lot."""


class BadEvents(StockError):
    """The value is no tuple of events that one stock can be asked about."""


class BadTasks(StockError):
    """The value is no tuple of tasks."""


class BadOffers(StockError):
    """The value is no tuple of offers."""


class BadEvent(StockError):
    """The value is no event that can come next."""


class Contrary(StockError):
    """No shop would fit any more; the value tells why."""


class BadNumber(StockError):
    """The value is no number of events of the day."""


class NothingToUndo(StockError):
    """No deed stands."""


class NothingToRedo(StockError):
    """No deed was taken back that can be done again."""


class NoTrial(StockError):
    """No trial is going on."""


class BadJournal(StockError):
    """A text is no journal; the value is the number of its first wrong line, 0 for what is no string."""


class BadLine(StockError):
    """The value is no line that a desk takes."""
