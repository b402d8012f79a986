"""All functions that tell something of a book, each with arguments: so that it can be asked of all what is so of all."""

from tests.reading import some_claim, some_standing
from tests.test_hanging import some_events
from tests.test_lasting import some_lap
from tests.test_planning import some_tasks
from tests.test_trying import some_offers
from unseenstocks.comparing import alike, needless, shows_alike, shows_within, within
from unseenstocks.explaining import bars, fewest, shows_fewest, shows_together, together
from unseenstocks.fitting import possible, shows_possible
from unseenstocks.hanging import hangs, shows_hangs
from unseenstocks.judging import follows, judged, shows_follows, shows_judged
from unseenstocks.lasting import lasting, shows_lasting
from unseenstocks.mixing import shows_sure, sure
from unseenstocks.planning import plan, shows_plan
from unseenstocks.sparing import spare
from unseenstocks.trying import shows_trials, trials

SHOWS = {
    sure: shows_sure, possible: shows_possible, judged: shows_judged, follows: shows_follows, lasting: shows_lasting,
    together: shows_together, fewest: shows_fewest, hangs: shows_hangs, within: shows_within, alike: shows_alike,
    plan: shows_plan, trials: shows_trials}
# Functions that raise NoShop just if no shop fits their first argument (and, of within and alike, the second one).
FITTED = (judged, follows, spare, lasting, fewest, hangs, within, alike, needless, plan, trials)


def some_calls(chance, book):
    """Of each function a name, and arguments behind the book, those behind a star by name."""
    most = 3
    standing, claim, other = some_standing(chance, len(book.jobs), most), some_claim(chance, book, most), some_claim(chance, book, 2)
    refusals = [number for number, fact in enumerate(book.facts) if fact[0] == "not"]
    tasks, events = some_tasks(chance, book, chance.randint(1, 3), 2), some_events(chance, book)
    found = [
        (sure, (standing,), {}), (possible, (), {}), (judged, (claim,), {}), (follows, (claim, other), {}),
        (spare, (book.first, chance.choice(book.jobs)), {}), (lasting, (some_lap(chance, book.jobs),), {}), (bars, (), {}),
        (fewest, (), {}), (hangs, (events,), {}), (needless, (), {}), (plan, (tasks,), {}), (plan, (tasks,), {"every": False}),
        (trials, (some_offers(chance, book, chance.randint(1, 2)), other), {})]
    for lot in [tuple(refusals[:size + 1]) for size in range(len(refusals))]:
        found.append((together, (lot,), {}))
    for number in range(min(3, len(book.facts))):
        found += [(within, (book.untold(number),), {}), (alike, (book.untold(number),), {})]
    return found
