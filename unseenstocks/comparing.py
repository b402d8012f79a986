"""Two books: which shops fit one and not the other, and which facts of a book the others tell already."""

from unseenstocks.books import Book
from unseenstocks.errors import OtherJobs
from unseenstocks.fitting import fitting, fitting_stocks, is_barred, is_fitting
from unseenstocks.forms import is_told
from unseenstocks.judging import with_lets
from unseenstocks.mixing import difference, is_right, proof
from unseenstocks.shops import Shop


def within(one, other):
    """Whether each shop that fits one book fits another one, with a paper for each fact of this, or a Shop."""
    check_both(one, other)
    return compared(one, other)


def shows_within(one, other, value):
    """Whether any value is a result of within."""
    check_both(one, other)
    if is_told(value, "parts", 2):
        return is_fitting(one, one.facts, value[1]) and not is_fitting(other, other.facts, value[1])
    return is_told(value, "within", 2) and are_papers(one, other.facts, value[1])


def alike(one, other):
    """Whether the same shops fit two books, or else a Shop that fits just one of them."""
    check_both(one, other)
    for found in (compared(one, other), compared(other, one)):
        if found[0] == "parts":
            return found
    return ("alike",)


def shows_alike(one, other, value):
    """Whether any value is a result of alike."""
    check_both(one, other)
    if is_told(value, "parts", 2):
        return is_fitting(one, one.facts, value[1]) != is_fitting(other, other.facts, value[1])
    return is_told(value, "alike", 1) and compared(one, other)[0] == compared(other, one)[0] == "within"


def needless(book):
    """The numbers of the facts that the others of a book tell already, each taken by itself."""
    fitting_stocks(book)
    found = []
    for number, fact in enumerate(book.facts):
        others = book.facts[:number] + book.facts[number + 1:]
        if paper(book.manners, others, fact)[0] == "paper":
            found.append(number)
    return tuple(found)


def check_both(one, other):
    """Raise what is due unless both are Books with the same jobs and manners, and some shop fits each of them."""
    if not isinstance(other, Book) or other.jobs != one.jobs or other.manners != one.manners:
        raise OtherJobs(other)
    fitting_stocks(one)
    fitting_stocks(other)


def compared(one, other):
    """What within tells of two books that some shops fit."""
    papers = []
    for fact in other.facts:
        word, found = paper(one.manners, one.facts, fact)
        if word == "stock":
            return ("parts", Shop(one, fitting_stocks(one) + (found,)))
        if word == "stocks":
            return ("parts", Shop(one, found))
        papers.append(found)
    return ("within", tuple(papers))


def paper(manners, facts, fact):
    """("paper", paper) if a fact is so in all shops that fit some facts, as one does.

    Otherwise what such a shop has in which it is not so: ("stocks", stocks), or ("stock", stock) beside any others.
    """
    if fact[0] == "not":
        found = fitting(manners, with_lets(facts, [fact[1]]))
        return ("paper", found[1:]) if found[0] == "barred" else found
    mixtures = []
    for aim in aims(fact):
        word, found = proof(manners, facts, aim)
        if word == "stock":
            return (word, found)
        mixtures.append(found)
    return ("paper", mixtures[0] if fact[0] == "let" else tuple(mixtures))


def aims(fact):
    """Where no stock is below 0 if a fact let, or as, is so."""
    if fact[0] == "let":
        return [(1, fact[1])]
    return [(0, difference(fact[1], fact[2])), (0, difference(fact[2], fact[1]))]


def are_papers(book, facts, value):
    """Whether a value is a tuple of right papers, in a book, of some facts."""
    if not isinstance(value, tuple) or len(value) != len(facts):
        return False
    return all([is_paper(book, fact, part) for fact, part in zip(facts, value)])


def is_paper(book, fact, value):
    """Whether a value is a right paper, in a book, of a fact."""
    if fact[0] == "let":
        return is_right(book.manners, book.facts, aims(fact)[0], value)
    if not isinstance(value, tuple) or len(value) != 2:
        return False
    if fact[0] == "not":
        return is_barred(book.manners, with_lets(book.facts, [fact[1]]), value[0], value[1])
    return all([is_right(book.manners, book.facts, aim, mixture) for aim, mixture in zip(aims(fact), value)])
