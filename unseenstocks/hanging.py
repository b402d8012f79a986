"""What draws on one stock.

A stock that hangs on none of some events is a sum of basic ones that do not: without the others, a mixture need not
hold their lines.
"""

from unseenstocks.errors import BadEvents
from unseenstocks.explaining import refusals
from unseenstocks.fitting import fitting_stocks, is_fitting
from unseenstocks.forms import is_event, is_number, is_told
from unseenstocks.mixing import basic_stocks, is_right_by, proof_by
from unseenstocks.shops import Shop

MOST_HUNG_ON = 3


def hangs(book, events):
    """Whether some stock hangs on all of some events in each shop that fits a book."""
    if not are_events(book, events):
        raise BadEvents(events)
    fitting_stocks(book)
    stocks = []
    for number in refusals(book):
        word, found = hung(book, book.facts[number][1], events)
        if word == "always":
            return (word, number, found)
        stocks.append(found)
    return ("open", Shop(book, tuple(stocks)))


def shows_hangs(book, events, value):
    """Whether any value is a result of hangs."""
    if not are_events(book, events):
        raise BadEvents(events)
    fitting_stocks(book)
    if is_told(value, "always", 3):
        return is_always(book, events, value[1], value[2])
    if not is_told(value, "open", 2) or not is_fitting(book, book.facts, value[1]):
        return False
    return not any([hangs_on_all(book, stock, events) for stock in value[1].stocks])


def are_events(book, value):
    """Whether a value is a tuple of one to three events, none twice."""
    if not isinstance(value, tuple) or not 1 <= len(value) <= MOST_HUNG_ON:
        return False
    return all([is_event(event, book.jobs) for event in value]) and len(set(value)) == len(value)


def hung(book, standing, events):
    """("always", mixtures) of a standing without each event, or a stock that refuses it and does without one."""
    mixtures = []
    for event in events:
        word, found = proof_by(basics_without(book, event), book.facts, (1, standing))
        if word == "stock":
            return (word, found)
        mixtures.append(found)
    return ("always", tuple(mixtures))


def basics_without(book, event):
    """The basic stocks that do not hang on an event."""
    job, at = place(book, event)
    return [basic for basic in basic_stocks(book.manners) if basic[1] != job or basic[2 + at] == 0]


def place(book, event):
    """The number of the job of an event, and where its change stands beside that of the other event of this job."""
    word, job = event
    return (book.jobs.index(job), ("begin", "end").index(word))


def is_always(book, events, number, mixtures):
    """Whether two values are the number of a fact not and mixtures of its standing, right without each event."""
    if not is_number(number, len(book.facts)) or book.facts[number][0] != "not":
        return False
    if not isinstance(mixtures, tuple) or len(mixtures) != len(events):
        return False
    aim = (1, book.facts[number][1])
    return all([is_right_by(basics_without(book, event), book.facts, aim, mixture)
                for event, mixture in zip(events, mixtures)])


def hangs_on_all(book, stock, events):
    """Whether a stock hangs on all of some events."""
    places = [place(book, event) for event in events]
    return all([stock[1][job][at] != 0 for job, at in places])
