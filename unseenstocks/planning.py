"""The shortest plans: rows that go in all shops that fit a book, or in some such shop."""

from unseenstocks.days import behind, row_standings
from unseenstocks.errors import BadTasks
from unseenstocks.fitting import fitting, fitting_stocks
from unseenstocks.forms import is_integer, is_word
from unseenstocks.judging import with_lets
from unseenstocks.mixing import proof

MOST_TASKS = 4
MOST_TICKS = 4


def plan(book, tasks, *, every=True):
    """The least end of starts whose row goes, and such starts, or () if there are none."""
    if not are_tasks(book, tasks):
        raise BadTasks(tasks)
    fitting_stocks(book)
    return soonest(Terms(book, every is True), tasks)


def shows_plan(book, tasks, value, *, every=True):
    """Whether any value is a result of plan."""
    least = plan(book, tasks, every=every)
    if not isinstance(value, tuple) or len(value) != len(least):
        return False
    if least == ():
        return True
    end, starts = value
    if not is_integer(end) or end != least[0] or not are_starts(tasks, starts):
        return False
    if end != max([start + ticks for (_, ticks), start in zip(tasks, starts)]):
        return False
    terms = Terms(book, every is True)
    return terms.after((), row_standings(book, starts_row(tasks, starts))) is not None


def are_tasks(book, value):
    """Whether a value is tasks of the jobs of a book."""
    if not isinstance(value, tuple) or not 1 <= len(value) <= MOST_TASKS:
        return False
    return all([is_task(book, task) for task in value])


def is_task(book, value):
    """Whether a value is a job of a book, and how many ticks it takes."""
    if not isinstance(value, tuple) or len(value) != 2:
        return False
    job, ticks = value
    return is_word(job, book.jobs) and is_integer(ticks) and 1 <= ticks <= MOST_TICKS


def are_starts(tasks, value):
    """Whether a value is starts of some tasks."""
    if not isinstance(value, tuple) or len(value) != len(tasks):
        return False
    return all([is_integer(start) and start >= 0 for start in value])


def starts_row(tasks, starts):
    """The row of starts: at one tick all ends, then all begins, in the sequence of the tasks."""
    events = []
    for number, ((job, ticks), start) in enumerate(zip(tasks, starts)):
        events.append((start, 1, number, ("begin", job)))
        events.append((start + ticks, 0, number, ("end", job)))
    return tuple([event for _, _, _, event in sorted(events)])


class Terms:
    """What rows are to keep to: that they surely go, or else that some shop that fits a book lets them go.

    Standings that are sure tell nothing of a shop: it lets them, whatever else it lets.
    """

    def __init__(self, book, every):
        self.book = book
        self.every = every
        self.sure = {}
        self.agreed = {(): True}

    def after(self, passed, standings):
        """The standings not sure of a row that goes, those in passed, behind some more, or None if it goes no more."""
        for standing in standings:
            if not self.is_sure(standing) and standing not in passed:
                passed = tuple(sorted(passed + (standing,)))
        if self.agree(passed):
            return passed
        return None

    def is_sure(self, standing):
        """Whether all shops that fit let a standing."""
        if standing not in self.sure:
            self.sure[standing] = proof(self.book.manners, self.book.facts, (1, standing))[0] == "sure"
        return self.sure[standing]

    def agree(self, passed):
        """Whether a row can go behind whose events are these standings that are not sure."""
        if passed not in self.agreed:
            facts = with_lets(self.book.facts, passed)
            self.agreed[passed] = not self.every and fitting(self.book.manners, facts)[0] == "stocks"
        return self.agreed[passed]


def soonest(terms, tasks):
    """The least end of starts whose row keeps to some terms, and such starts, or () if there are none.

    Tick by tick all is tried that can begin. A gap can be closed, so it is not tried: some task runs at each tick
    ahead of the end.
    """
    states = [((None,) * len(tasks), terms.book.first, ())]
    tick = 0
    while len(states) > 0:
        found = {}
        for state in states:
            for starts, standing, passed in next_states(terms, tasks, tick, state):
                lefts = ticks_left(tasks, starts, tick)
                if all([left == 0 for left in lefts]):
                    return (tick, starts)
                if any([left is not None and left > 0 for left in lefts]):
                    found[(lefts, passed)] = (starts, standing, passed)
        states = list(found.values())
        tick = tick + 1
    return ()


def next_states(terms, tasks, tick, state):
    """What can come of a state at a tick, with each choice of tasks that begin then.

    A state is the starts so far, None for tasks that have not begun, the standing, and what its row has passed.
    """
    states = []
    for starts in choices(state[0], tick):
        standings = [state[1]]
        for event in tick_row(tasks, starts, tick):
            standings.append(behind(terms.book, standings[-1], event))
        passed = terms.after(state[2], standings[1:])
        if passed is not None:
            states.append((starts, standings[-1], passed))
    return states


def choices(starts, tick):
    """Starts with each choice of tasks that begin at a tick."""
    found = [()]
    for start in starts:
        here = (None, tick) if start is None else (start,)
        found = [some + (chosen,) for some in found for chosen in here]
    return found


def tick_row(tasks, starts, tick):
    """The events of a tick: all ends, then all begins, in the sequence of the tasks."""
    ends = [("end", job) for (job, ticks), start in zip(tasks, starts) if start is not None and start + ticks == tick]
    return ends + [("begin", job) for (job, _), start in zip(tasks, starts) if start == tick]


def ticks_left(tasks, starts, tick):
    """How many ticks each task goes on, 0 if it has ended, None if it has not begun."""
    return tuple([None if start is None else max(0, start + ticks - tick) for (_, ticks), start in zip(tasks, starts)])
