"""How many more works of a job can begin."""

from unseenstocks.errors import BadStanding, NoJob, NotSure
from unseenstocks.fitting import fitting, fitting_stocks
from unseenstocks.forms import MOST_COUNTED, is_standing, is_word
from unseenstocks.judging import with_lets
from unseenstocks.mixing import proof


def spare(book, standing, job):
    """How many more begins of a job surely go from a sure standing on, and how many in some shop that fits."""
    if not is_standing(standing, len(book.jobs)):
        raise BadStanding(standing)
    if not is_word(job, book.jobs):
        raise NoJob(job)
    fitting_stocks(book)
    if not is_sure(book, standing):
        raise NotSure(standing)
    at = book.jobs.index(job)
    most = MOST_COUNTED - standing[at][0]
    surely = greatest(most, lambda many: is_sure(book, begun_more(standing, at, many)))
    perhaps = greatest(most, lambda many: is_possible(book, begun_more(standing, at, many)))
    return (surely, perhaps)


def is_sure(book, standing):
    """Whether each stock that keeps a book lets a standing."""
    return proof(book.manners, book.facts, (1, standing))[0] == "sure"


def is_possible(book, standing):
    """Whether some shop that fits a book lets a standing."""
    return fitting(book.manners, with_lets(book.facts, [standing]))[0] == "stocks"


def begun_more(standing, at, many):
    """The standing behind so many more begins of the job at a place."""
    begun, ended = standing[at]
    return standing[:at] + ((begun + many, ended),) + standing[at + 1:]


def greatest(most, holds):
    """The greatest number, at most this one, that something holds of, as it does of 0.

    Begin by begin a stock changes by the same amount: what lets the first and the last standing of some lets all
    between. So what holds of a number here holds of all smaller ones, and the numbers can be halved again and again.
    """
    low = 0
    high = most
    while low < high:
        middle = (low + high + 1) // 2
        if holds(middle):
            low = middle
        else:
            high = middle - 1
    return low
