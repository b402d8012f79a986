"""The cheapest trials until it is known whether a claim is so."""

from unseenstocks.days import row_standings
from unseenstocks.errors import BadOffers
from unseenstocks.fitting import fitting, fitting_stocks
from unseenstocks.forms import is_integer, is_number, is_told, is_word
from unseenstocks.judging import claim_standings, with_lets
from unseenstocks.mixing import proofs

MOST_OFFERS = 3
MOST_TRIED = 3
HIGHEST_PRICE = 9


def trials(book, offers, claim):
    """The least price of a tree of trials that tells whether a claim is so, and such a tree, or () if there is none."""
    return asked(book, offers, claim).best(untried(offers))


def shows_trials(book, offers, claim, value):
    """Whether any value is a result of trials."""
    search = asked(book, offers, claim)
    least = search.best(untried(offers))
    if not isinstance(value, tuple) or len(value) != len(least):
        return False
    if least == ():
        return True
    price, tree = value
    return is_integer(price) and price == least[0] == search.price(untried(offers), tree)


def asked(book, offers, claim):
    """The search for trees of trials."""
    if not are_offers(book, offers):
        raise BadOffers(offers)
    wanted = claim_standings(book, claim)
    fitting_stocks(book)
    return Search(book, offers, wanted)


def are_offers(book, value):
    """Whether a value is offers of rows of the jobs of a book."""
    if not isinstance(value, tuple) or not 1 <= len(value) <= MOST_OFFERS:
        return False
    return all([is_offer(book, offer) for offer in value]) and len(set([row for row, _ in value])) == len(value)


def is_offer(book, value):
    """Whether a value is a row of a book and its price."""
    if not isinstance(value, tuple) or len(value) != 2:
        return False
    row, price = value
    passed = row_standings(book, row)
    if passed is None or not 1 <= len(passed) <= MOST_TRIED:
        return False
    return is_integer(price) and 1 <= price <= HIGHEST_PRICE


def untried(offers):
    """What was seen while nothing was tried: of each offer a number, or None if it was not tried."""
    return (None,) * len(offers)


class Search:
    """Of all that can be seen as offers are tried, what is known then, and the cheapest tree from there on.

    In whatever sequence offers were tried, the same is known: so what was seen is told offer by offer.
    """

    def __init__(self, book, offers, wanted):
        self.book = book
        self.passed = [row_standings(book, row) for row, _ in offers]
        self.prices = [price for _, price in offers]
        self.wanted = wanted
        self.words = {}
        self.found = {}

    def word(self, seen):
        """Whether the claim is "always" or "never" so where this was seen, or "open"; "none" if no shop fits that."""
        if seen not in self.words:
            self.words[seen] = claim_word(self.book.manners, self.seen_facts(seen), self.wanted)
        return self.words[seen]

    def seen_facts(self, seen):
        """The facts of the book, and of what was seen."""
        facts = self.book.facts
        for passed, number in zip(self.passed, seen):
            if number is not None:
                facts = with_lets(facts, passed[:number]) + tuple([("not", one) for one in passed[number:number + 1]])
        return facts

    def branches(self, seen, number):
        """The numbers that can be seen as an offer is tried, each with all that was seen then."""
        states = [(at, seen[:number] + (at,) + seen[number + 1:]) for at in range(len(self.passed[number]) + 1)]
        return [(at, state) for at, state in states if self.word(state) != "none"]

    def best(self, seen):
        """The least price of a tree where this was seen, and such a tree, or () if there is none."""
        if seen not in self.found:
            self.found[seen] = self.cheapest(seen)
        return self.found[seen]

    def cheapest(self, seen):
        """What best tells where it was not found yet."""
        if self.word(seen) != "open":
            return (0, ("known", self.word(seen)))
        best = ()
        for number in range(len(self.prices)):
            if seen[number] is None:
                found = self.tree(seen, number)
                if best == () or (found != () and found[0] < best[0]):
                    best = found
        return best

    def tree(self, seen, number):
        """The least price of a tree that tries an offer first, and such a tree, or () if there is none."""
        rows = []
        dearest = 0
        for at, state in self.branches(seen, number):
            found = self.best(state)
            if found == ():
                return ()
            rows.append((at, found[1]))
            dearest = max(dearest, found[0])
        return (self.prices[number] + dearest, ("try", number, tuple(rows)))

    def price(self, seen, value):
        """The price of a tree where this was seen, or None for what is no tree there."""
        if is_told(value, "known", 2):
            return 0 if self.word(seen) != "open" and is_word(value[1], (self.word(seen),)) else None
        if not is_told(value, "try", 3):
            return None
        _, number, rows = value
        if not is_number(number, len(self.prices)) or seen[number] is not None:
            return None
        states = self.branches(seen, number)
        if not isinstance(rows, tuple) or len(rows) != len(states):
            return None
        prices = [self.row_price(at, state, row) for (at, state), row in zip(states, rows)]
        if None in prices:
            return None
        return self.prices[number] + max(prices)

    def row_price(self, at, seen, value):
        """The price of the tree of what is seen as an offer is tried, or None if a value is no such row."""
        if not isinstance(value, tuple) or len(value) != 2 or not is_integer(value[0]) or value[0] != at:
            return None
        return self.price(seen, value[1])


def claim_word(manners, facts, wanted):
    """Whether standings are let in all shops that fit some facts, or in none, or it is open, or no shop fits."""
    if fitting(manners, facts)[0] == "barred":
        return "none"
    if proofs(manners, facts, wanted)[0] == "always":
        return "always"
    if fitting(manners, with_lets(facts, wanted))[0] == "barred":
        return "never"
    return "open"
