"""Guarantee (b) over all functions: with facts more, as long as a shop fits, what was told to be so stays so."""

import itertools
import random
import unittest

from tests.reading import fitted_books, manners_of, seen_books, some_claim, some_standing
from tests.test_comparing import tell
from tests.test_hanging import some_events
from tests.test_lasting import some_lap
from tests.test_planning import some_tasks
from unseenstocks.comparing import within
from unseenstocks.explaining import bars, fewest, together
from unseenstocks.fitting import possible
from unseenstocks.hanging import hangs
from unseenstocks.judging import follows, judged
from unseenstocks.lasting import lasting
from unseenstocks.mixing import sure
from unseenstocks.planning import plan
from unseenstocks.sparing import spare

NO_END = 10 ** 9


def pairs(seed, number, many, most):
    """Books, each with one of some facts more that some shop fits too."""
    chance = random.Random(seed)
    found = []
    for book in fitted_books(seed, number, many, most) + seen_books(seed, number):
        more = book
        for _ in range(chance.randint(1, 4)):
            kind = chance.choice(("let", "not", "not", "as"))
            fact = (kind,) + tuple(some_standing(chance, len(book.jobs), most) for _ in range(1 + (kind == "as")))
            told = tell(more, fact)
            if told is not None and possible(told)[0] == "shop":
                more = told
        found.append((book, more))
    return found


def laps_that_go(told):
    return NO_END if told[0] == "ever" else told[1] - 1


def end(told):
    return told[0] if told else NO_END


class MoreSeen(unittest.TestCase):
    def setUp(self):
        self.chance = random.Random(250)
        self.pairs = pairs(251, 60, (5, 3, 1), 4)

    def test_facts_come_on(self):
        self.assertGreater(len([more for book, more in self.pairs if len(more) > len(book) + 1]), 40)

    def test_sure_always_and_never(self):
        kept = set()
        for book, more in self.pairs:
            for _ in range(4):
                standing, claim = some_standing(self.chance, len(book.jobs), 4), some_claim(self.chance, book, 4)
                if sure(book, standing)[0] == "sure":
                    self.assertEqual(sure(more, standing)[0], "sure")
                word, then = judged(book, claim)[0], judged(more, claim)[0]
                self.assertTrue(word in ("open", then), (book.text, more.text, claim))
                kept.add((word, then))
        self.assertEqual(len(kept), 5)

    def test_follows(self):
        kept = set()
        for book, more in self.pairs:
            for _ in range(4):
                claim, other = some_claim(self.chance, book, 3), some_claim(self.chance, book, 3)
                word, then = follows(book, claim, other)[0], follows(more, claim, other)[0]
                self.assertTrue(word in ("open", then) or then == "never", (book.text, more.text, claim, other))
                kept.add((word, then))
        self.assertGreater(len(kept), 5)

    def test_spare(self):
        changed = [0, 0]
        for book, more in self.pairs:
            for job in book.jobs:
                (surely, perhaps), (later, at_most) = spare(book, book.first, job), spare(more, book.first, job)
                self.assertLessEqual(surely, later)
                self.assertGreaterEqual(perhaps, at_most)
                changed = [changed[0] + (surely < later), changed[1] + (perhaps > at_most)]
        self.assertGreater(min(changed), 10)

    def test_lasting(self):
        changed = 0
        for book, more in self.pairs:
            for lap in [some_lap(self.chance, book.jobs) for _ in range(3)]:
                before, then = laps_that_go(lasting(book, lap)), laps_that_go(lasting(more, lap))
                self.assertLessEqual(before, then)
                changed += before < then
        self.assertGreater(changed, 10)

    def test_lots(self):
        apart = 0
        for book, more in self.pairs + pairs(253, 40, (8, 6, 0), 6):
            refusals = [number for number, fact in enumerate(book.facts) if fact[0] == "not"]
            for size in range(1, len(refusals) + 1):
                for lot in itertools.combinations(refusals, size):
                    if together(book, lot)[0] == "apart":
                        apart += 1
                        self.assertEqual(together(more, lot)[0], "apart")
                        self.assertTrue(any(set(some) <= set(lot) for some in bars(more)))
            self.assertLessEqual(fewest(book)[0], fewest(more)[0])
        self.assertGreater(apart, 10)

    def test_hangs(self):
        kept = 0
        for book, more in self.pairs + pairs(252, 60, (6, 2, 0), 3):
            for events in [some_events(self.chance, book) for _ in range(4)]:
                if hangs(book, events)[0] == "always":
                    kept += 1
                    self.assertEqual(hangs(more, events)[0], "always", (book.text, more.text, events))
        self.assertGreater(kept, 50)

    def test_within(self):
        words = {"within": 0, "parts": 0}
        for book, more in self.pairs:
            self.assertEqual(within(more, book)[0], "within")
            words[within(book, more)[0]] += 1
        self.assertGreater(min(words.values()), 10)

    def test_plan(self):
        changed = [0, 0]
        for book, more in self.pairs:
            for tasks in [some_tasks(self.chance, book, 3, 2) for _ in range(2)]:
                surely, then = end(plan(book, tasks)), end(plan(more, tasks))
                self.assertGreaterEqual(surely, then)
                perhaps, later = end(plan(book, tasks, every=False)), end(plan(more, tasks, every=False))
                self.assertLessEqual(perhaps, later)
                changed = [changed[0] + (surely > then), changed[1] + (perhaps < later)]
        self.assertGreater(min(changed), 5)

    def test_manners_are_all_there(self):
        self.assertEqual(len({manner for book, _ in self.pairs for manner in manners_of(book)}), 4)


if __name__ == "__main__":
    unittest.main()
