import inspect
import itertools
import unittest

from unseenstocks import (
    benches, books, comparing, days, desk, explaining, fitting, hanging, journals, judging, lasting, mixing, planning, shops,
    sparing, trying)
from unseenstocks.benches import Bench
from unseenstocks.books import Book
from unseenstocks.desk import Desk
from unseenstocks.shops import Shop

MODULES = (
    (books, ["Book"]), (days, ["standings", "heard"]), (shops, ["Shop"]), (mixing, ["sure", "shows_sure"]),
    (fitting, ["possible", "shows_possible"]),
    (judging, ["judged", "shows_judged", "follows", "shows_follows"]), (sparing, ["spare"]),
    (lasting, ["lasting", "shows_lasting"]),
    (explaining, ["together", "shows_together", "bars", "fewest", "shows_fewest"]), (hanging, ["hangs", "shows_hangs"]),
    (comparing, ["within", "shows_within", "alike", "shows_alike", "needless"]), (planning, ["plan", "shows_plan"]),
    (trying, ["trials", "shows_trials"]), (benches, ["Bench"]), (journals, ["journal", "read_journal"]), (desk, ["Desk"]),
)
BOOK = Book("jobs ann bob\nclean ann\nlet 2 0 0 0\nlet 0 0 1 0\nnot 3 0 0 0")
SHOP = Shop(BOOK, ((4, ((-2, 2), (-1, 0))), (1, ((0, 0), (-1, 1)))))
STANDING, ROW, LAP = ((1, 0), (1, 0)), (("begin", "ann"), ("begin", "ann")), (("begin", "bob"), ("end", "bob"))
CLAIM, OTHER = ("lets", STANDING), ("goes", ROW)
OFFERS, BENCH = (((("begin", "bob"),) * 2, 2), ((("begin", "bob"), ("begin", "ann")), 3)), Bench(BOOK)
JOURNAL = BOOK.text + "\nseen\nbegin ann"
FEWER, TASKS = BOOK.untold(2), (("ann", 2), ("bob", 1), ("ann", 1), ("ann", 1))
CALLS = (
    (Book, {"text": BOOK.text}), (BOOK.manner, {"job": "ann"}), (BOOK.told, {"fact": ("let", STANDING)}),
    (BOOK.untold, {"number": 2}), (days.standings, {"book": BOOK, "row": ROW}),
    (days.heard, {"book": BOOK, "day": LAP + (("as", 1),)}), (Shop, {"book": BOOK, "stocks": SHOP.stocks}),
    (SHOP.level, {"number": 1, "standing": STANDING}), (SHOP.lets, {"standing": STANDING}), (SHOP.stop, {"row": ROW}),
    (SHOP.broken, {"book": BOOK}), (SHOP.fits, {"book": BOOK}), (mixing.sure, {"book": BOOK, "standing": STANDING}),
    (mixing.shows_sure, {"book": BOOK, "standing": STANDING, "value": mixing.sure(BOOK, STANDING)}),
    (fitting.possible, {"book": BOOK}), (fitting.shows_possible, {"book": BOOK, "value": fitting.possible(BOOK)}),
    (judging.judged, {"book": BOOK, "claim": CLAIM}),
    (judging.shows_judged, {"book": BOOK, "claim": CLAIM, "value": judging.judged(BOOK, CLAIM)}),
    (judging.follows, {"book": BOOK, "claim": CLAIM, "other": OTHER}),
    (judging.shows_follows,
     {"book": BOOK, "claim": CLAIM, "other": OTHER, "value": judging.follows(BOOK, CLAIM, OTHER)}),
    (sparing.spare, {"book": BOOK, "standing": BOOK.first, "job": "bob"}),
    (lasting.lasting, {"book": BOOK, "lap": LAP}),
    (lasting.shows_lasting, {"book": BOOK, "lap": LAP, "value": lasting.lasting(BOOK, LAP)}),
    (explaining.together, {"book": BOOK, "lot": (2,)}),
    (explaining.shows_together, {"book": BOOK, "lot": (2,), "value": explaining.together(BOOK, (2,))}),
    (explaining.bars, {"book": BOOK}), (explaining.fewest, {"book": BOOK}),
    (explaining.shows_fewest, {"book": BOOK, "value": explaining.fewest(BOOK)}),
    (hanging.hangs, {"book": BOOK, "events": ROW[:1]}),
    (hanging.shows_hangs, {"book": BOOK, "events": ROW[:1], "value": hanging.hangs(BOOK, ROW[:1])}),
    (comparing.within, {"one": BOOK, "other": FEWER}),
    (comparing.shows_within, {"one": BOOK, "other": FEWER, "value": comparing.within(BOOK, FEWER)}),
    (comparing.alike, {"one": BOOK, "other": FEWER}),
    (comparing.shows_alike, {"one": BOOK, "other": FEWER, "value": comparing.alike(BOOK, FEWER)}),
    (comparing.needless, {"book": BOOK}),
    (planning.plan, {"book": BOOK, "tasks": TASKS}), (planning.plan, {"book": BOOK, "tasks": TASKS, "every": False}),
    (planning.shows_plan, {"book": BOOK, "tasks": TASKS, "value": planning.plan(BOOK, TASKS)}),
    (planning.shows_plan,
     {"book": BOOK, "tasks": TASKS, "value": planning.plan(BOOK, TASKS, every=0), "every": False}),
    (trying.trials, {"book": BOOK, "offers": OFFERS, "claim": CLAIM}),
    (trying.shows_trials,
     {"book": BOOK, "offers": OFFERS, "claim": CLAIM, "value": trying.trials(BOOK, OFFERS, CLAIM)}),
    (Bench, {"book": BOOK}), (BENCH.judged, {"claim": CLAIM}), (BENCH.coming, {}), (BENCH.copy, {}),
    (BENCH.tried, {"look": Bench.coming}), (BENCH.tried, {"look": Bench.coming, "keep": True}),
    (journals.journal, {"bench": BENCH}), (journals.read_journal, {"text": JOURNAL}),
)
BEHIND_THE_STAR = {"every": True, "keep": False}
# What changes a bench, or is asked of a desk: each on one of its own.
DEEDS = (
    ("let", {"event": ("begin", "ann")}), ("refuse", {"event": ("begin", "bob")}), ("same", {"number": 1}), ("morning", {}),
    ("undo", {}), ("redo", {}), ("tried", {"look": Bench.morning, "keep": True}), ("tried", {"look": Bench.morning}))


def parameters(call):
    """The names of the arguments of a call, those that are passed by position alone or behind a star apart."""
    found = inspect.signature(call).parameters.values()
    return ([one.name for one in found if one.kind is one.POSITIONAL_OR_KEYWORD],
            {one.name: one.default for one in found if one.kind is not one.POSITIONAL_OR_KEYWORD})


class Interface(unittest.TestCase):
    def test_defined_where_listed(self):
        for module, names in MODULES:
            for name in names:
                self.assertEqual(getattr(module, name).__module__, module.__name__)

    def test_methods_stand_in_the_class_itself(self):
        for name in ("manner", "told", "untold", "__len__", "__contains__", "__or__", "__eq__"):
            self.assertIn(name, vars(Book))
        for name in ("let", "refuse", "same", "morning", "judged", "coming", "undo", "redo", "trial", "keep", "tried", "copy",
                     "__eq__"):
            self.assertIn(name, vars(Bench))
        self.assertIn("say", vars(Desk))
        for name in ("level", "lets", "stop", "broken", "fits", "__or__", "__len__", "__getitem__", "__eq__"):
            self.assertIn(name, vars(Shop))

    def test_attributes_are_set_on_each_object(self):
        for name in ("text", "jobs", "first", "facts"):
            self.assertIn(name, vars(Book("jobs a")))
        for name in ("jobs", "stocks"):
            self.assertIn(name, vars(Shop(Book("jobs a"), ())))
        for name in ("book", "row", "done"):
            self.assertIn(name, vars(Bench(Book("jobs a"))))
        self.assertIn("bench", vars(Desk("jobs a\nseen")))

    def test_arguments_by_position_and_by_name_in_any_sequence(self):
        for call, named in CALLS:
            names, starred = parameters(call)
            self.assertEqual([name for name in named if name not in BEHIND_THE_STAR], names)
            self.assertEqual(starred, {name: default for name, default in BEHIND_THE_STAR.items() if name in starred})
            told = call(**named)
            for order in itertools.permutations(named):
                self.assertEqual(call(**{name: named[name] for name in order}), told)
            for many in range(len(names) + 1):
                behind = {name: named[name] for name in named if name not in names[:many]}
                self.assertEqual(call(*[named[name] for name in names[:many]], **behind), told)
            if call.__name__.startswith("shows_"):
                self.assertIs(told, True)

    def test_deeds_by_position_and_by_name(self):
        for name, named in DEEDS:
            found = []
            for by_name in (False, True):
                bench = journals.read_journal(JOURNAL + "\nmorning\nbegin ann\nmorning")
                bench.undo()
                names, starred = parameters(getattr(bench, name))
                self.assertEqual([one for one in named if one != "keep"], names)
                self.assertEqual(starred, {one: False for one in starred if one == "keep"})
                behind = {one: named[one] for one in named if by_name or one not in names}
                self.assertIsNone(getattr(bench, name)(*[named[one] for one in names if not by_name], **behind))
                found.append((bench.row, bench.done, journals.journal(bench)))
            self.assertEqual(found[0], found[1])

    def test_desks_by_position_and_by_name(self):
        for desk_made in (Desk(JOURNAL), Desk(text=JOURNAL)):
            self.assertEqual((parameters(Desk)[0], parameters(desk_made.say)[0]), (["text"], ["line"]))
            self.assertEqual([desk_made.say("spare ann"), desk_made.say(line="spare ann")], ["1 1", "1 1"])
            self.assertEqual([desk_made.say(line="undo"), desk_made.say("redo")], ["ok", "ok"])

    def test_keep_and_trial(self):
        bench = Bench(BOOK)
        self.assertEqual((parameters(bench.trial), parameters(bench.keep)), (([], {}), ([], {})))
        with bench.trial() as held:
            self.assertIs(held, bench)
            self.assertIsNone(bench.morning())
            self.assertIsNone(bench.keep())
        self.assertEqual(bench.done, 1)

    def test_every_call_is_tried(self):
        tried = [call.__name__ for call, _ in CALLS] + ["Desk"]
        for _, names in MODULES:
            for name in names:
                self.assertIn(name, tried)


if __name__ == "__main__":
    unittest.main()
