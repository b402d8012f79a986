"""Whether any value has the form of an integer, a name, a standing, a fact, an event, a stock or a result.

Python takes True for 1, so what is compared with == is first told here to hold no bool.
"""

MOST_COUNTED = 40
MOST_TOLD = {"let": 24, "not": 6, "as": 4}
LONGEST_NAME = 8


def is_integer(value):
    """Whether a value is an int and no bool."""
    return isinstance(value, int) and not isinstance(value, bool)


def is_number(value, many):
    """Whether a value is the number of one of so many things, the first of which has the number 0."""
    return is_integer(value) and 0 <= value < many


def is_word(value, words):
    """Whether a value is one of some strings."""
    return isinstance(value, str) and value in words


def is_told(value, word, size):
    """Whether a value is a result of so many parts, the first of which is this word."""
    return isinstance(value, tuple) and len(value) == size and is_word(value[0], (word,))


def is_numeral(text):
    """Whether a string is an integer from 0 on, without zeros ahead."""
    return text.isascii() and text.isdigit() and (text == "0" or text[0] != "0")


def is_name(text):
    """Whether a string can be the name of a job."""
    return 1 <= len(text) <= LONGEST_NAME and all(["a" <= letter <= "z" for letter in text])


def is_pair(value):
    """Whether a value can tell how often a job has begun, and ended."""
    if not isinstance(value, tuple) or len(value) != 2:
        return False
    begun, ended = value
    return is_integer(begun) and is_integer(ended) and 0 <= ended <= begun <= MOST_COUNTED


def is_standing(value, many):
    """Whether a value is a standing of so many jobs."""
    return isinstance(value, tuple) and len(value) == many and all([is_pair(pair) for pair in value])


def is_fact(value, many):
    """Whether a value is a fact of so many jobs."""
    if not isinstance(value, tuple):
        return False
    if len(value) == 2:
        return is_word(value[0], ("let", "not")) and is_standing(value[1], many)
    if len(value) == 3:
        here, there = value[1:]
        both = is_standing(here, many) and is_standing(there, many)
        return is_word(value[0], ("as",)) and both and here != there
    return False


def is_event(value, jobs):
    """Whether a value is an event of one of some jobs."""
    if not isinstance(value, tuple) or len(value) != 2:
        return False
    return is_word(value[0], ("begin", "end")) and is_word(value[1], jobs)


def is_stock(value, manners):
    """Whether a value is a stock of a book whose jobs have these manners."""
    if not isinstance(value, tuple) or len(value) != 2:
        return False
    first, changes = value
    if not is_integer(first) or first < 0:
        return False
    if not isinstance(changes, tuple) or len(changes) != len(manners):
        return False
    return all([is_change(change, manner) for change, manner in zip(changes, manners)])


def is_change(value, manner):
    """Whether a value can tell how a begin, and an end, of a job of this manner changes a stock."""
    if not isinstance(value, tuple) or len(value) != 2:
        return False
    begin, end = value
    if not is_integer(begin) or not is_integer(end):
        return False
    if manner == "free":
        return True
    if begin > 0:
        return False
    if manner == "clean":
        return end == -begin
    if manner == "spent":
        return end == 0
    return end >= 0
