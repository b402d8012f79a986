"""Claims: whether they are so in all shops that fit a book, in none, or in some, and what follows from them.

A shop in which a claim is so is one that fits the book with its standings told let.
"""

from unseenstocks.days import row_standings
from unseenstocks.errors import BadClaim
from unseenstocks.fitting import fitting, fitting_stocks, is_barred, is_fitting
from unseenstocks.forms import is_standing, is_told
from unseenstocks.mixing import are_right, proofs
from unseenstocks.shops import Shop, below


def judged(book, claim):
    """Whether a claim is so in all shops that fit a book, or in none, or in one and not in another one."""
    wanted = claim_standings(book, claim)
    return weighed(book, book.facts, fitting_stocks(book), wanted, "never")


def shows_judged(book, claim, value):
    """Whether any value is a result of judged."""
    wanted = claim_standings(book, claim)
    fitting_stocks(book)
    return is_weighed(book, book.facts, wanted, "never", value)


def follows(book, claim, other):
    """What a claim tells of another one."""
    given = claim_standings(book, claim)
    wanted = claim_standings(book, other)
    fitting_stocks(book)
    facts = with_lets(book.facts, given)
    found = fitting(book.manners, facts)
    if found[0] == "barred":
        return ("never",) + found[1:]
    return weighed(book, facts, found[1], wanted, "bars")


def shows_follows(book, claim, other, value):
    """Whether any value is a result of follows."""
    given = claim_standings(book, claim)
    wanted = claim_standings(book, other)
    fitting_stocks(book)
    facts = with_lets(book.facts, given)
    if is_told(value, "never", 3):
        return is_barred(book.manners, facts, value[1], value[2])
    return fitting(book.manners, facts)[0] == "stocks" and is_weighed(book, facts, wanted, "bars", value)


def claim_standings(book, claim):
    """The standings of a claim."""
    if is_told(claim, "lets", 2) and is_standing(claim[1], len(book.jobs)):
        return (claim[1],)
    passed = None
    if is_told(claim, "goes", 2):
        passed = row_standings(book, claim[1])
    if passed is None:
        raise BadClaim(claim)
    return passed


def with_lets(facts, standings):
    """Facts, and behind them some standings told let, also those that stand there already."""
    return facts + tuple([("let", standing) for standing in standings])


def weighed(book, facts, stocks, wanted, word):
    """Whether all shops that fit some facts let the standings that are wanted, or none does, told by this word.

    The stocks are those of a shop that fits the facts.
    """
    shown = proofs(book.manners, facts, wanted)
    if shown[0] == "always":
        return shown
    found = fitting(book.manners, with_lets(facts, wanted))
    if found[0] == "barred":
        return (word,) + found[1:]
    return ("open", Shop(book, found[1]), Shop(book, stocks + (shown[2],)))


def is_weighed(book, facts, wanted, word, value):
    """Whether a value is what weighed tells."""
    if is_told(value, "always", 2):
        return are_right(book.manners, facts, wanted, value[1])
    if is_told(value, word, 3):
        return is_barred(book.manners, with_lets(facts, wanted), value[1], value[2])
    if not is_told(value, "open", 3):
        return False
    if not is_fitting(book, with_lets(facts, wanted), value[1]) or not is_fitting(book, facts, value[2]):
        return False
    return any([below(value[2].stocks, standing) != () for standing in wanted])
