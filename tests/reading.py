"""The document's tables read once more, without a line of the program's own reading of them.

What the program returns is told here to be right or not, and small stocks are gone through one by one.
"""

import itertools
import random

from unseenstocks.books import Book
from unseenstocks.mixing import sure
from unseenstocks.shops import Shop

MANNERS = ("plain", "clean", "spent", "free")
LINES = {
    "plain": lambda begun, ended, b, e: begun >= b and ended <= e,
    "clean": lambda begun, ended, b, e: begun - ended >= b - e,
    "spent": lambda begun, ended, b, e: begun >= b,
    "free": lambda begun, ended, b, e: begun == b and ended == e,
}
CHANGES = {
    "plain": lambda begin, end: begin <= 0 <= end,
    "clean": lambda begin, end: begin <= 0 and begin + end == 0,
    "spent": lambda begin, end: begin <= 0 == end,
    "free": lambda begin, end: True,
}


def manners_of(book):
    return tuple(book.manner(job) for job in book.jobs)


def level(stock, pairs):
    return stock[0] + sum(begun * take + ended * give for (take, give), (begun, ended) in zip(stock[1], pairs))


def keeps(stock, facts):
    lets = all(level(stock, fact[1]) >= 0 for fact in facts if fact[0] == "let")
    return lets and all(level(stock, fact[1]) == level(stock, fact[2]) for fact in facts if fact[0] == "as")


def is_int(value):
    return type(value) is int


def is_stock(value, manners):
    if type(value) is not tuple or len(value) != 2 or not is_int(value[0]) or value[0] < 0:
        return False
    if type(value[1]) is not tuple or len(value[1]) != len(manners):
        return False
    for change, manner in zip(value[1], manners):
        if type(change) is not tuple or len(change) != 2 or not all(map(is_int, change)):
            return False
        if not CHANGES[manner](*change):
            return False
    return True


def parts_are_right(facts, weights, backs):
    for parts, kind in ((weights, "let"), (backs, "as")):
        if type(parts) is not tuple:
            return False
        last = -1
        for part in parts:
            if type(part) is not tuple or len(part) != 2 or not all(map(is_int, part)):
                return False
            if not last < part[0] < len(facts) or facts[part[0]][0] != kind:
                return False
            if part[1] == 0 or (kind == "let" and part[1] < 0):
                return False
            last = part[0]
    return True


def sums(facts, weights, backs, job):
    begun = sum(w * facts[n][1][job][0] for n, w in weights)
    begun += sum(z * (facts[n][1][job][0] - facts[n][2][job][0]) for n, z in backs)
    ended = sum(w * facts[n][1][job][1] for n, w in weights)
    ended += sum(z * (facts[n][1][job][1] - facts[n][2][job][1]) for n, z in backs)
    return begun, ended


def is_mixture(manners, facts, pairs, value):
    if type(value) is not tuple or len(value) != 3 or not is_int(value[0]) or value[0] < 1:
        return False
    m, weights, backs = value
    if not parts_are_right(facts, weights, backs) or sum(w for _, w in weights) > m:
        return False
    return all(LINES[manner](*sums(facts, weights, backs, job), m * pairs[job][0], m * pairs[job][1])
               for job, manner in enumerate(manners))


def is_sure_result(manners, facts, pairs, value):
    if type(value) is not tuple or len(value) != 2 or type(value[0]) is not str:
        return False
    if value[0] == "sure":
        return is_mixture(manners, facts, pairs, value[1])
    if value[0] != "stock" or not is_stock(value[1], manners):
        return False
    return keeps(value[1], facts) and level(value[1], pairs) < 0


def fits(value, book, manners, facts):
    if not isinstance(value, Shop) or value.jobs != book.jobs or value.manners != manners:
        return False
    if not all(is_stock(stock, manners) and keeps(stock, facts) for stock in value.stocks):
        return False
    return not any(lets(value, fact[1]) for fact in facts if fact[0] == "not")


def lets(shop, pairs):
    return all(level(stock, pairs) >= 0 for stock in shop.stocks)


def is_barred(manners, facts, number, mixture):
    if not is_int(number) or not 0 <= number < len(facts) or facts[number][0] != "not":
        return False
    return is_mixture(manners, facts, facts[number][1], mixture)


def is_possible_result(book, value):
    if type(value) is not tuple or not value or type(value[0]) is not str:
        return False
    if value[0] == "shop" and len(value) == 2:
        return fits(value[1], book, manners_of(book), book.facts)
    return value[0] == "barred" and len(value) == 3 and is_barred(manners_of(book), book.facts, *value[1:])


def small_stocks(manners, most, change):
    """All stocks with no more than this in the morning, and no greater change."""
    span = range(-change, change + 1)
    pairs = [[(begin, end) for begin in span for end in span if CHANGES[manner](begin, end)] for manner in manners]
    return [(first, changes) for first in range(most + 1) for changes in itertools.product(*pairs)]


def some_standing(chance, jobs, most):
    begun = [chance.randint(0, most) for _ in range(jobs)]
    return tuple((many, chance.randint(0, many)) for many in begun)


def some_book(chance, manners, many, most):
    """A Book with at most so many facts of each kind, counts to most."""
    jobs = ("a", "b", "c", "d")[:len(manners)]
    lines = ["jobs " + " ".join(jobs)]
    lines += [f"{manner} {job}" for job, manner in zip(jobs, manners) if manner != "plain"]
    book = Book("\n".join(lines))
    kinds = [kind for kind, number in zip(("let", "not", "as"), many) for _ in range(number)]
    chance.shuffle(kinds)
    for kind in kinds:
        here, there = some_standing(chance, len(jobs), most), some_standing(chance, len(jobs), most)
        if kind == "as" and here != there:
            book = book.told((kind, here, there))
        if kind != "as":
            book = book.told((kind, here))
    return book


def some_books(seed, number, many, most, jobs=(1, 2, 3, 4)):
    """Books of jobs of any manners."""
    chance = random.Random(seed)
    books = []
    for _ in range(number):
        manners = [chance.choice(MANNERS) for _ in range(chance.choice(jobs))]
        books.append(some_book(chance, manners, [chance.randint(0, most_facts) for most_facts in many], most))
    return books


def seen_of(chance, shop, book, many, most):
    """The Book with facts that are so in a shop, told of some standings."""
    for _ in range(many):
        standing = some_standing(chance, len(book.jobs), most)
        kind = "let" if shop.lets(standing) else "not"
        if len([fact for fact in book.facts if fact[0] == kind]) < {"let": 24, "not": 6}[kind]:
            book = book.told((kind, standing))
    return book


def with_lets(facts, standings):
    return facts + tuple(("let", standing) for standing in standings)


def are_mixtures(manners, facts, standings, value):
    if type(value) is not tuple or len(value) != len(standings):
        return False
    return all(is_mixture(manners, facts, pairs, mixture) for pairs, mixture in zip(standings, value))


def is_weighed(book, facts, wanted, word, value):
    """Whether a value is always, never or bars (this word), or open, of standings wanted, in shops that fit facts."""
    manners = manners_of(book)
    if type(value) is not tuple or not value or type(value[0]) is not str:
        return False
    if value[0] == "always" and len(value) == 2:
        return are_mixtures(manners, facts, wanted, value[1])
    if value[0] == word and len(value) == 3:
        return is_barred(manners, with_lets(facts, wanted), *value[1:])
    if value[0] != "open" or len(value) != 3 or not fits(value[1], book, manners, with_lets(facts, wanted)):
        return False
    return fits(value[2], book, manners, facts) and not all(lets(value[2], standing) for standing in wanted)


def some_row(chance, jobs, many):
    """A row of so many events."""
    row, running = [], []
    for _ in range(many):
        if running and chance.randint(0, 1):
            row.append(("end", running.pop(chance.randrange(len(running)))))
        else:
            running.append(chance.choice(jobs))
            row.append(("begin", running[-1]))
    return tuple(row)


def some_claim(chance, book, most):
    if chance.randint(0, 1):
        return ("goes", some_row(chance, book.jobs, min(24, chance.randint(0, most))))
    return ("lets", some_standing(chance, len(book.jobs), most))


def fitted_books(seed, number, many, most, jobs=(1, 2, 3, 4)):
    """Books that some shop fits: of facts not only those that can be."""
    found = []
    for book in some_books(seed, number, many, most, jobs):
        for at in reversed([at for at, fact in enumerate(book.facts) if fact[0] == "not"]):
            if sure(book, book.facts[at][1])[0] == "sure":
                book = book.untold(at)
        found.append(book)
    return found


def seen_books(seed, number, jobs=(1, 2, 3, 4), most=3):
    """Books of what was seen of shops with one stock, most near to its end, with changes at most events."""
    chance = random.Random(seed)
    books = []
    for book in some_books(seed, number, (0, 0, 0), most, jobs):
        changes = []
        for manner in manners_of(book):
            pairs = [pair for pair in itertools.product((-1, 0, 1), repeat=2) if CHANGES[manner](*pair)]
            changes.append(chance.choice(sorted(pairs, key=lambda pair: pair.count(0))[:3]))
        stock = (chance.randint(0, 2), tuple(changes))
        for _ in range(chance.choice((10, 100, 200))):
            standing = some_standing(chance, len(book.jobs), most)
            kind = {0: "let", -1: "not"}.get(level(stock, standing))
            if kind is not None and book.text.count(kind) < {"let": 24, "not": 2}[kind]:
                book = book.told((kind, standing))
        books.append(book)
    return books
