"""Shops: stocks of a book, what they let, and which facts are so in them."""

from unseenstocks.days import standings
from unseenstocks.errors import BadStanding, BadStocks, NoStock, OtherJobs
from unseenstocks.forms import is_number, is_standing, is_stock

MOST_STOCKS = 12


class Shop:
    """Stocks, none or more, of the jobs of a book. Of the book only these and their manners count."""

    def __init__(self, book, stocks):
        if not isinstance(stocks, tuple) or len(stocks) > MOST_STOCKS:
            raise BadStocks(stocks)
        if not all([is_stock(stock, book.manners) for stock in stocks]):
            raise BadStocks(stocks)
        self.book = book
        self.jobs = book.jobs
        self.manners = book.manners
        self.stocks = stocks

    def level(self, number, standing):
        """What the stock with a number has at a standing."""
        if not is_number(number, len(self.stocks)):
            raise NoStock(number)
        if not is_standing(standing, len(self.jobs)):
            raise BadStanding(standing)
        return level_at(self.stocks[number], standing)

    def lets(self, standing):
        """Whether no stock is below 0 at a standing."""
        if not is_standing(standing, len(self.jobs)):
            raise BadStanding(standing)
        return below(self.stocks, standing) == ()

    def stop(self, row):
        """None if a row goes; or the first event behind which stocks are below 0, and the numbers of these."""
        for number, standing in enumerate(standings(self.book, row)):
            short = below(self.stocks, standing)
            if short != ():
                return (number, short)
        return None

    def broken(self, book):
        """The numbers of the facts of a book that are not so here."""
        if self.jobs != book.jobs or self.manners != book.manners:
            raise OtherJobs(book)
        return tuple([number for number, fact in enumerate(book.facts) if not is_so(self.stocks, fact)])

    def fits(self, book):
        """Whether all facts of a book are so here."""
        return self.broken(book) == ()

    def __or__(self, other):
        if self.jobs != other.jobs or self.manners != other.manners:
            raise OtherJobs(other)
        return Shop(self.book, self.stocks + other.stocks)

    def __len__(self):
        return len(self.stocks)

    def __getitem__(self, at):
        if not is_number(at, len(self.stocks)):
            raise NoStock(at)
        return self.stocks[at]

    def __iter__(self):
        raise TypeError("go over the stocks of a shop")

    def __eq__(self, other):
        return (isinstance(other, Shop) and self.jobs == other.jobs and self.manners == other.manners
                and self.stocks == other.stocks)


def level_at(stock, pairs):
    """What a stock has when each job has begun, and ended, as often as its pair tells."""
    level, changes = stock
    for change, pair in zip(changes, pairs):
        level = level + change[0] * pair[0] + change[1] * pair[1]
    return level


def below(stocks, standing):
    """The numbers of the stocks that are below 0 at a standing."""
    return tuple([number for number, stock in enumerate(stocks) if level_at(stock, standing) < 0])


def keeps(stock, facts):
    """Whether a stock lets what was let, and has one level wherever it was told to have one."""
    return all([fact[0] == "not" or is_so([stock], fact) for fact in facts])


def is_so(stocks, fact):
    """Whether a fact is so in a shop of some stocks."""
    if fact[0] == "as":
        return all([level_at(stock, fact[1]) == level_at(stock, fact[2]) for stock in stocks])
    return (fact[0] == "let") == (below(stocks, fact[1]) == ())
