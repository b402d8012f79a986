"""Whether any shop fits a book: one does just if no standing told not is sure, and has a stock for each then."""

from unseenstocks.errors import NoShop
from unseenstocks.forms import is_number, is_told
from unseenstocks.mixing import is_right, proof
from unseenstocks.shops import Shop, is_so


def possible(book):
    """A Shop that fits a book, or a fact not that cannot be, with a right mixture of its standing."""
    found = fitting(book.manners, book.facts)
    if found[0] == "barred":
        return found
    return ("shop", Shop(book, found[1]))


def shows_possible(book, value):
    """Whether any value is a result of possible."""
    if is_told(value, "shop", 2):
        return is_fitting(book, book.facts, value[1])
    return is_told(value, "barred", 3) and is_barred(book.manners, book.facts, value[1], value[2])


def fitting(manners, facts):
    """("stocks", stocks) with those of a shop that fits the facts, or the fact not that cannot be, as possible tells.

    Each stock refuses a fact not of its own, so there are as many as facts not.
    """
    stocks = []
    for number, fact in enumerate(facts):
        if fact[0] == "not":
            word, found = proof(manners, facts, (1, fact[1]))
            if word == "sure":
                return ("barred", number, found)
            stocks.append(found)
    return ("stocks", tuple(stocks))


def fitting_stocks(book):
    """The stocks of a shop that fits a book."""
    found = fitting(book.manners, book.facts)
    if found[0] == "barred":
        raise NoShop(book)
    return found[1]


def is_fitting(book, facts, value):
    """Whether a value is a Shop of the jobs of a book in which some facts are so."""
    if not isinstance(value, Shop) or value.jobs != book.jobs or value.manners != book.manners:
        return False
    return all([is_so(value.stocks, fact) for fact in facts])


def is_barred(manners, facts, number, mixture):
    """Whether two values are the number of a fact not and a right mixture of its standing."""
    if not is_number(number, len(facts)) or facts[number][0] != "not":
        return False
    return is_right(manners, facts, (1, facts[number][1]), mixture)
