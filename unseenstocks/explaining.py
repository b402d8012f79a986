"""Which refusals one stock explains together, and how few stocks explain all."""

from unseenstocks.errors import BadLot
from unseenstocks.fitting import fitting_stocks, is_fitting
from unseenstocks.forms import is_integer, is_number, is_told
from unseenstocks.mixing import are_parts, basic_stocks, is_enough, is_refusing, levels, parted
from unseenstocks.shops import Shop


def together(book, lot):
    """A stock that keeps a book and lets no standing of a lot, or a right mixture of the lot."""
    if not is_lot(book, lot):
        raise BadLot(lot)
    return explained(book, lot)


def shows_together(book, lot, value):
    """Whether any value is a result of together."""
    if not is_lot(book, lot):
        raise BadLot(lot)
    if is_told(value, "stock", 2):
        return all([is_refusing(book.manners, book.facts, book.facts[number][1], value[1]) for number in lot])
    return is_told(value, "apart", 2) and is_apart(book, lot, value[1])


def bars(book):
    """The lots that no one stock explains, though one explains what is left without any one of their numbers."""
    return tuple(sorted([lot for lot, word in lot_words(book).items() if word == "apart"]))


def fewest(book):
    """The least number of stocks of a shop that fits a book, and such a Shop."""
    fitting_stocks(book)
    lots = fewest_lots(book)
    return (len(lots), Shop(book, tuple([explained(book, lot)[1] for lot in lots])))


def shows_fewest(book, value):
    """Whether any value is a result of fewest."""
    fitting_stocks(book)
    if not isinstance(value, tuple) or len(value) != 2:
        return False
    many, shop = value
    if not is_integer(many) or not is_fitting(book, book.facts, shop):
        return False
    return many == len(shop) == len(fewest_lots(book))


def refusals(book):
    """The numbers of the facts not."""
    return tuple([number for number, fact in enumerate(book.facts) if fact[0] == "not"])


def is_lot(book, value):
    """Whether a value is a lot of a book."""
    if not isinstance(value, tuple) or len(value) == 0:
        return False
    if not all([is_number(number, len(book.facts)) and book.facts[number][0] == "not" for number in value]):
        return False
    return list(value) == sorted(set(value))


def explained(book, lot):
    """What together tells of a lot."""
    basics = basic_stocks(book.manners)
    word, found = parted(basics, book.facts, [(1, book.facts[number][1]) for number in lot])
    if word == "stock":
        return (word, found)
    shares, weights, backs = found
    return ("apart", (tuple([(number, share) for number, share in zip(lot, shares)]), weights, backs))


def is_apart(book, lot, value):
    """Whether a value is a right mixture of a lot."""
    if not isinstance(value, tuple) or len(value) != 3:
        return False
    shares, weights, backs = value
    if not are_shares(lot, shares) or not are_parts(weights, backs, book.facts):
        return False
    basics = basic_stocks(book.manners)
    whole = [0] * len(basics)
    for number, share in shares:
        whole = [level + share * part for level, part in zip(whole, levels(basics, (1, book.facts[number][1])))]
    return is_enough(basics, book.facts, whole, weights + backs)


def are_shares(lot, value):
    """Whether a value tells of each number of a lot, in sequence, how often it is taken, and one at least is."""
    if not isinstance(value, tuple) or len(value) != len(lot):
        return False
    if not all([is_share(number, part) for number, part in zip(lot, value)]):
        return False
    return any([share > 0 for _, share in value])


def is_share(number, value):
    """Whether a value tells how often this number is taken."""
    if not isinstance(value, tuple) or len(value) != 2:
        return False
    told, share = value
    return is_integer(told) and told == number and is_integer(share) and share >= 0


def lot_words(book):
    """Of each lot: "stock" if one stock explains it, "apart" if none does, "more" if this holds of a part already."""
    lots = [()]
    for number in refusals(book):
        lots = lots + [lot + (number,) for lot in lots]
    words = {(): "stock"}
    for lot in sorted(lots[1:], key=len):
        parts = [lot[:at] + lot[at + 1:] for at in range(len(lot))]
        if all([words[part] == "stock" for part in parts]):
            words[lot] = explained(book, lot)[0]
        else:
            words[lot] = "more"
    return words


def fewest_lots(book):
    """As few lots as can be that have all facts not between them, each explained by one stock."""
    words = lot_words(book)
    return parted_lots(refusals(book), [lot for lot in words if lot != () and words[lot] == "stock"])


def parted_lots(numbers, lots):
    """As few lots, out of some, as can be into which numbers can be parted."""
    if numbers == ():
        return []
    best = None
    for lot in lots:
        if lot[0] == numbers[0] and all([number in numbers for number in lot]):
            left = tuple([number for number in numbers if number not in lot])
            found = [lot] + parted_lots(left, lots)
            if best is None or len(found) < len(best):
                best = found
    return best
