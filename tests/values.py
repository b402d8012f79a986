"""Values of every kind, to hand in where something else is asked for."""

from unseenstocks.books import Book


def nested(depth):
    """A tuple that many deep."""
    value = (1,)
    for _ in range(depth - 1):
        value = (value,)
    return value


def any_values():
    """Values that are no text of a book, job, fact, fact's number below 0, row but (), or day but ()."""
    book = Book("jobs a")
    full = Book("jobs a b\nclean b\nlet 1 0 1 0")
    return [
        -1, 41, 10 ** 14, True, False, None,
        "", " ", "a b", "A", "let", "begin", "jobs", "0", "1", "\n",
        [], {}, {"let": ((1, 0),)}, {0: 1}, book, full,
        [()], ((),), (None,), (0,), (True,), ("",), (0, 0), ((0, 0),), ((0, 0), (0, 0)), [((0, 0),)],
        ("let",), ("let", "a"), ("let", book), ("let", 0), ("let", None), ("let", ()), ("let", [(1, 0)]),
        ("let", {0: (1, 0)}), ("as", book, full), ("as", book, book), ("as", None, None), ("as",), ("as", book),
        (book,), (book, book), (book, 0), (book, "a"), (book, book, book), ((book, "a"),), (("begin", book),),
        (("no", book, "a"),), (("no", "begin", book),), (("as", book),), (("as", None),), ([],), ({},), ("begin",),
        ("begin", "a"), ["begin", "a"], (["begin", "a"],), [("begin", "a")], {"begin": "a"}, ({"begin": "a"},),
        nested(30), [nested(29)], {"a": nested(29)}, ("let", nested(29)), ("as", nested(29), nested(29)),
    ]


def spoiled(value):
    """Values that are unlike a tuple of words, numbers and tuples at one place, however deep.

    None of them is equal to it under the rule that True is not 1, and a list no tuple.
    """
    if isinstance(value, tuple):
        found = [list(value), value + (None,), {}, None, Book("jobs a"), "", 0, (value,)]
        for at, part in enumerate(value):
            found.extend(value[:at] + (other,) + value[at + 1:] for other in spoiled(part))
        return found
    found = [None, [value], (value,), Book("jobs a"), {value: value}]
    if isinstance(value, str):
        return found + [value + "x", value.upper(), " " + value, "", 0, True, [*value]]
    if value in (0, 1):
        found.append(bool(value))
    return found + [str(value), -1, 41, "", value + 10 ** 14]


def standing_pairs():
    """All that can be told of one job, fewest begins first."""
    return [(begun, ended) for begun in range(41) for ended in range(begun + 1)]
