"""What can be done lap by lap for ever, or up to which lap.

From lap to lap a stock changes by the same amount: what it lets in two laps it lets in all between.
"""

from unseenstocks.days import row_standings
from unseenstocks.errors import BadLap
from unseenstocks.fitting import fitting_stocks
from unseenstocks.forms import is_integer, is_number, is_told
from unseenstocks.mixing import are_right, is_refusing, is_right, proof, proofs
from unseenstocks.shops import level_at

MOST_IN_LAP = 6


def lasting(book, lap):
    """Whether all laps surely go, or else which is the first one that does not, with mixtures and a stock."""
    passed = lap_standings(book, lap)
    fitting_stocks(book)
    shown = proofs(book.manners, book.facts, passed)
    if shown[0] == "stock":
        return ("until", 1, ()) + shown[1:]
    word, found = proof(book.manners, book.facts, (0, passed[-1]))
    if word == "sure":
        return ("ever", shown[1], found)
    return until(book, passed, shown[1], found)


def shows_lasting(book, lap, value):
    """Whether any value is a result of lasting."""
    passed = lap_standings(book, lap)
    fitting_stocks(book)
    if is_told(value, "ever", 3):
        drift = (0, passed[-1])
        return are_right(book.manners, book.facts, passed, value[1]) and is_right(
            book.manners, book.facts, drift, value[2])
    return is_told(value, "until", 5) and is_until(book, passed, value)


def lap_standings(book, lap):
    """The standings behind the events of a lap."""
    passed = row_standings(book, lap)
    if passed is None or not 1 <= len(passed) <= MOST_IN_LAP:
        raise BadLap(lap)
    if any([begun != ended for begun, ended in passed[-1]]):
        raise BadLap(lap)
    return passed


def until(book, passed, mixtures, stock):
    """What lasting tells where the first lap is sure, and a stock has less behind each lap.

    This stock tells how many more laps can be sure at the most. If not all of them are, another stock tells of fewer.
    """
    more, number = laps_of(stock, passed)
    shown = proofs(book.manners, book.facts, laps_on(passed, more))
    while shown[0] == "stock":
        stock = shown[2]
        more, number = laps_of(stock, passed)
        shown = proofs(book.manners, book.facts, laps_on(passed, more))
    return ("until", more + 2, (mixtures, shown[1]), number, stock)


def laps_of(stock, passed):
    """How many laps behind the first one a stock lets whole, and the number of an event it refuses in the next one."""
    fall = stock[0] - level_at(stock, passed[-1])
    laps = [level_at(stock, standing) // fall for standing in passed]
    return (min(laps), laps.index(min(laps)))


def laps_on(passed, more):
    """The standings behind the events of a lap so many laps behind the first one."""
    return [added(standing, passed[-1], more) for standing in passed]


def added(standing, whole, more):
    """A standing, and the one behind a whole lap so many times."""
    return tuple([(begun + more * other, ended + more * given)
                  for (begun, ended), (other, given) in zip(standing, whole)])


def is_until(book, passed, value):
    """Whether a result of five parts that tells until is right."""
    _, lap, mixtures, number, stock = value
    if not is_integer(lap) or lap < 1 or not is_number(number, len(passed)):
        return False
    if not is_refusing(book.manners, book.facts, added(passed[number], passed[-1], lap - 1), stock):
        return False
    if lap == 1:
        return mixtures == ()
    if not isinstance(mixtures, tuple) or len(mixtures) != 2:
        return False
    return are_right(book.manners, book.facts, passed, mixtures[0]) and are_right(
        book.manners, book.facts, laps_on(passed, lap - 2), mixtures[1])
