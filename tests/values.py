"""Values of every kind, to hand in where something else is asked for."""

from unseenstocks.books import Book
from unseenstocks.shops import Shop


def nested(depth):
    """A tuple that many deep."""
    value = (1,)
    for _ in range(depth - 1):
        value = (value,)
    return value


def any_values():
    """Values that are no text of a book, job, fact, fact's number below 0, row but (), or day but ()."""
    book = Book("jobs a")
    full = Book("jobs a b\nclean b\nlet 1 0 1 0")
    shop = Shop(book, ())
    return [
        -1, 41, 10 ** 14, True, False, None,
        "", " ", "a b", "A", "let", "begin", "jobs", "0", "1", "\n",
        [], {}, {"let": ((1, 0),)}, {0: 1}, book, full,
        [()], ((),), (None,), (0,), (True,), ("",), (0, 0), ((0, 0),), ((0, 0), (0, 0)), [((0, 0),)],
        ("let",), ("let", "a"), ("let", book), ("let", 0), ("let", None), ("let", ()), ("let", [(1, 0)]),
        ("let", {0: (1, 0)}), ("as", book, full), ("as", book, book), ("as", None, None), ("as",), ("as", book),
        (book,), (book, book), (book, 0), (book, "a"), (book, book, book), ((book, "a"),), (("begin", book),),
        (("no", book, "a"),), (("no", "begin", book),), (("as", book),), (("as", None),), ([],), ({},), ("begin",),
        ("begin", "a"), ["begin", "a"], (["begin", "a"],), [("begin", "a")], {"begin": "a"}, ({"begin": "a"},),
        shop, [shop], (shop,), ("let", shop), (shop, shop), ("begin", shop), (("begin", shop),), ("shop", shop),
        [(1, ((0, 0),))], (1, (), ()), ("sure", (1, (), ())), ("stock", (0, ((0, 0),))), ("open",), ("open", shop, shop),
        nested(30), [nested(29)], {"a": nested(29)}, ("let", nested(29)), ("as", nested(29), nested(29)),
    ]


def spoiled(value):
    """Values that are unlike a tuple of words, numbers and tuples at one place, however deep.

    None of them is equal to it under the rule that True is not 1, and a list no tuple.
    """
    if isinstance(value, tuple):
        found = [list(value), value + (None,), {}, None, Book("jobs a"), "", 0, (value,)]
        for at, part in enumerate(value):
            found.extend(value[:at] + (other,) + value[at + 1:] for other in spoiled(part))
        return found
    found = [None, [value], (value,), Book("jobs a"), {value: value}]
    if isinstance(value, str):
        return found + [value + "x", value.upper(), " " + value, "", 0, True, [*value]]
    if value in (0, 1):
        found.append(bool(value))
    return found + [str(value), -1, 41, "", value + 10 ** 14]


def bent(value):
    """Values that differ from a tuple of words, numbers, objects and tuples at one place, however deep.

    Numbers may be as great as they like: what was returned may be handed in changed.
    """
    if not isinstance(value, tuple):
        return bent_part(value)
    found = [list(value), value + (None,), value + (0,), value[:-1] + (None,), (value,), None, nested(30), ()]
    for at, part in enumerate(value):
        found.extend([value[:at] + value[at + 1:], value[:at] + (part,) + value[at:], value[:at] + value[at:][::-1]])
        found.extend([value[:at] + (other,) + value[at + 1:] for other in bent(part)])
    return found


def bent_part(value):
    """Values that differ from a word, a number or an object."""
    found = [None, [value], (value,), Book("jobs a"), Shop(Book("jobs a"), ()), {}, "", (), True, False]
    if isinstance(value, str):
        return found + [value + "x", value.upper(), 0, [*value]]
    if isinstance(value, int):
        changed = [value + 1, value - 1, -value, 2 * value, 0, 1, 2, 3, 41, value + 10 ** 40, -(10 ** 40)]
        return found + [str(value), *changed]
    return found


def standing_pairs():
    """All that can be told of one job, fewest begins first."""
    return [(begun, ended) for begun in range(41) for ended in range(begun + 1)]
