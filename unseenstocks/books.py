"""Books: the jobs of a shop, their manners, and the facts that were seen."""

from unseenstocks.errors import BadBook, BadFact, Full, NoFact, NoJob, OtherJobs
from unseenstocks.forms import MOST_TOLD, is_fact, is_name, is_number, is_numeral, is_word

MOST_JOBS = 4
LINED_MANNERS = ("clean", "spent", "free")
NO_COUNT = -1


class Book:
    """What was seen of a shop. A Book never changes: told, untold and | make others."""

    def __init__(self, text):
        if not isinstance(text, str):
            raise BadBook(0)
        lines = text.split("\n")
        self.text = text
        self.jobs = read_jobs(lines[0])
        lined = read_manners(lines, self.jobs)
        self.head = "\n".join(lines[:1 + len(lined)])
        self.manners = tuple([lined.get(job, "plain") for job in self.jobs])
        self.first = ((0, 0),) * len(self.jobs)
        self.facts = read_facts(lines, 1 + len(lined), len(self.jobs))

    def manner(self, job):
        """What the changes of a job can be: plain, clean, spent or free."""
        if not is_word(job, self.jobs):
            raise NoJob(job)
        return self.manners[self.jobs.index(job)]

    def told(self, fact):
        """The Book with a fact behind the others, or this one if it has the fact."""
        if not is_fact(fact, len(self.jobs)):
            raise BadFact(fact)
        return grown(self, [fact])

    def untold(self, number):
        """The Book without the fact with a number."""
        if not is_number(number, len(self.facts)):
            raise NoFact(number)
        lines = self.text.split("\n")
        at = len(lines) - len(self.facts) + number
        return remade(self, lines[:at] + lines[at + 1:], self.facts[:number] + self.facts[number + 1:])

    def __or__(self, other):
        if self.jobs != other.jobs or self.manners != other.manners:
            raise OtherJobs(other)
        return grown(self, other.facts)

    def __contains__(self, x):
        return is_fact(x, len(self.jobs)) and x in self.facts

    def __len__(self):
        return len(self.facts)

    def __eq__(self, other):
        return isinstance(other, Book) and self.text == other.text


def grown(book, facts):
    """The Book with some facts of its jobs behind its own, told one by one, or this one if it has all of them."""
    known = list(book.facts)
    lines = [book.text]
    for fact in facts:
        if fact not in known:
            if is_full(known, fact[0]):
                raise Full(MOST_TOLD[fact[0]])
            known.append(fact)
            lines.append(fact_line(fact))
    if len(lines) == 1:
        return book
    return remade(book, lines, tuple(known))


def remade(book, lines, facts):
    """The Book of these lines, which tell these facts of the jobs of a book.

    Only what is ahead of the facts is read anew: reading all facts again takes most of the time of telling one.
    """
    made = Book(book.head)
    made.text = "\n".join(lines)
    made.facts = facts
    return made


def is_full(facts, kind):
    """Whether no further fact of this kind can stand beside some facts."""
    return len([fact for fact in facts if fact[0] == kind]) >= MOST_TOLD[kind]


def fact_line(fact):
    """The line of a book's text that tells a fact."""
    if fact[0] == "as":
        return f"as {counts_text(fact[1])} to {counts_text(fact[2])}"
    return f"{fact[0]} {counts_text(fact[1])}"


def counts_text(standing):
    """The numbers of a standing as a line has them."""
    return " ".join([f"{begun} {ended}" for begun, ended in standing])


def read_jobs(line):
    """The jobs that the first line of a text tells."""
    words = line.split(" ")
    names = words[1:]
    if words[0] != "jobs" or not 1 <= len(names) <= MOST_JOBS:
        raise BadBook(1)
    if len(set(names)) < len(names) or not all([is_name(name) for name in names]):
        raise BadBook(1)
    return tuple(names)


def read_manners(lines, jobs):
    """The manners that lines tell, by job, up to the first line that can tell none.

    This line is not judged here: behind the manners each line has to be a fact.
    """
    manners = {}
    for line in lines[1:]:
        words = line.split(" ")
        if len(words) != 2 or words[0] not in LINED_MANNERS:
            return manners
        if words[1] not in jobs or words[1] in manners:
            return manners
        manners[words[1]] = words[0]
    return manners


def read_facts(lines, start, many):
    """The facts of so many jobs that the lines from an index on tell."""
    facts = []
    for at in range(start, len(lines)):
        fact = read_fact(lines[at].split(" "), many)
        if not is_fact(fact, many) or fact in facts or is_full(facts, fact[0]):
            raise BadBook(at + 1)
        facts.append(fact)
    return tuple(facts)


def read_fact(words, many):
    """What the words of a line tell of so many jobs: a fact, or what is none."""
    middle = 1 + 2 * many
    here = read_standing(words[1:middle])
    if len(words) == middle:
        return (words[0], here)
    if len(words) == 2 * middle and words[middle] == "to":
        return (words[0], here, read_standing(words[middle + 1:]))
    return None


def read_standing(words):
    """What words tell, two by two: a standing, or what is none."""
    counts = [read_count(word) for word in words]
    return tuple([(counts[at], counts[at + 1]) for at in range(0, len(counts) - 1, 2)])


def read_count(word):
    """The number that a word tells; of one that tells none, or over two figures, what no standing has."""
    if not is_numeral(word) or len(word) > 2:
        return NO_COUNT
    return int(word)
