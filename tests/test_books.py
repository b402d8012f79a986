import itertools
import random
import re
import unittest

from tests.values import any_values, spoiled, standing_pairs
from unseenstocks.books import Book
from unseenstocks.days import heard
from unseenstocks.errors import BadBook, BadFact, Full, NoFact, NoJob, OtherJobs

SAMPLE = "jobs ann bob\nclean ann\nlet 2 0 0 0\nlet 0 0 1 0\nnot 3 0 0 0"
NAMES = ("a", "zz", "letnotas", "jobs")
MOST = {"let": 24, "not": 6, "as": 4}


def words_of(standing):
    return " ".join(str(count) for pair in standing for count in pair)


def line_of(fact):
    return " to ".join([f"{fact[0]} {words_of(fact[1])}", *[words_of(other) for other in fact[2:]]])


def some_facts(many, kind, how_many):
    """That many unlike facts of one kind, of that many jobs."""
    pairs = standing_pairs()
    standings = [tuple(pairs[(at * 7 + job * 5) % len(pairs)] for job in range(many)) for at in range(60)]
    if kind != "as":
        return [(kind, standing) for standing in standings[:how_many]]
    return [("as", standings[at], standings[at + 1]) for at in range(how_many)]


def all_facts(many):
    """As many facts as a book can have, the kinds mixed."""
    kinds = [some_facts(many, kind, MOST[kind]) for kind in ("as", "let", "not")]
    return [fact for row in itertools.zip_longest(*kinds) for fact in row if fact is not None]


def text_of(jobs, lined, facts):
    head = ["jobs " + " ".join(jobs), *[f"{manner} {job}" for job, manner in lined]]
    return "\n".join(head + [line_of(fact) for fact in facts])


def many_texts():
    """Texts of all numbers of jobs, all manners in all sequences, without facts."""
    for many in range(1, 5):
        jobs = NAMES[:many]
        for manners in itertools.product(("plain", "clean", "spent", "free"), repeat=many):
            lined = [(job, manner) for job, manner in zip(jobs, manners) if manner != "plain"]
            for row in itertools.permutations(lined):
                yield jobs, manners, row


def first_wrong_line(text):
    """The number of the first line of a text that is wrong, or None, told by other means than the program's."""
    lines = text.split("\n")
    jobs = lines[0].split(" ")[1:]
    if not re.fullmatch(r"jobs( [a-z]{1,8}){1,4}", lines[0]) or len(set(jobs)) < len(jobs):
        return 1
    count = r" (?:[0-9]|[123][0-9]|40)"
    standing = "(" + count * 2 * len(jobs) + ")"
    left = dict.fromkeys(jobs, True)
    seen = []
    for number, line in enumerate(lines[1:], 2):
        manner = re.fullmatch("(?:clean|spent|free) ([a-z]+)", line)
        if manner and not seen and left.pop(manner[1], False):
            continue
        fact = re.fullmatch(f"(let|not){standing}", line) or re.fullmatch(f"(as){standing} to{standing}", line)
        if fact is None or line in seen or fact[1] == "as" and fact[2] == fact[3]:
            return number
        counts = [int(word) for word in re.findall("[0-9]+", line)]
        if any(begun < ended for begun, ended in zip(counts[::2], counts[1::2])):
            return number
        seen.append(line)
        if sum(other.startswith(fact[1]) for other in seen) > MOST[fact[1]]:
            return number
    return None


class BookCase(unittest.TestCase):
    def check_raises(self, error, value, call, *given):
        with self.assertRaises(error) as caught:
            call(*given)
        self.assertIs(type(caught.exception), error)
        self.assertIs(caught.exception.value, value)

    def check_text(self, text, number):
        """The number of the wrong line is told, None for a book."""
        try:
            book = Book(text)
        except BadBook as error:
            self.assertIs(type(error.value), int)
            self.assertEqual(error.value, number, text)
        else:
            self.assertIsNone(number, text)
            self.assertEqual(book.text, text)


class Told(BookCase):
    """Books as they are told."""

    def test_document_example(self):
        book = Book(SAMPLE)
        more = book.told(("as", ((1, 0), (1, 1)), ((1, 0), (0, 0))))
        self.assertEqual(
            [book.jobs, book.manner("bob"), book.first, book.facts[1], len(more)],
            [("ann", "bob"), "plain", ((0, 0), (0, 0)), ("let", ((0, 0), (1, 0))), 4])
        self.assertEqual(more.text, SAMPLE + "\nas 1 0 1 1 to 1 0 0 0")

    def test_all_manners_in_all_sequences(self):
        for jobs, manners, row in many_texts():
            text = text_of(jobs, row, [])
            book = Book(text)
            self.assertEqual((book.text, book.jobs, book.first), (text, jobs, ((0, 0),) * len(jobs)))
            self.assertEqual(tuple(book.manner(job) for job in jobs), manners)
            self.assertEqual((book.facts, len(book)), ((), 0))

    def test_as_many_facts_as_can_be(self):
        for many in range(1, 5):
            facts = all_facts(many)
            self.assertEqual(len(facts), 34)
            for row in (facts, facts[::-1], sorted(facts), facts[:1], facts[3:20]):
                text = text_of(NAMES[:many], [(NAMES[0], "spent")], row)
                book = Book(text)
                self.assertEqual((book.text, book.facts, len(book)), (text, tuple(row), len(row)))
                self.assertIs(type(book.facts), tuple)
                self.assertEqual([fact in book for fact in facts], [fact in row for fact in facts])

    def test_other_way_about_is_another_fact(self):
        book = Book("jobs a\nas 1 0 to 2 0\nas 2 0 to 1 0")
        self.assertEqual(book.facts, (("as", ((1, 0),), ((2, 0),)), ("as", ((2, 0),), ((1, 0),))))
        self.assertNotIn(("as", ((2, 0),), ((1, 0),)), Book("jobs a\nas 1 0 to 2 0"))

    def test_one_standing_in_facts_of_all_kinds(self):
        book = Book("jobs a\nlet 0 0\nnot 0 0\nas 0 0 to 40 40\nlet 40 0")
        self.assertEqual(len(book), 4)
        self.assertIn(("not", ((0, 0),)), book)
        self.assertNotIn(("not", ((40, 0),)), book)

    def test_words_of_lines_can_be_jobs(self):
        book = Book("jobs clean to as let\nfree clean\nclean let\nlet 1 0 2 0 3 0 4 0")
        self.assertEqual([book.manner(job) for job in book.jobs], ["free", "plain", "plain", "clean"])

    def test_manner_of_no_job(self):
        book = Book(SAMPLE)
        for value in any_values() + ["anna", "an", "plain", ("ann",), ["ann"], 0, 1]:
            self.check_raises(NoJob, value, book.manner, value)

    def test_in_tells_a_bool_for_any_value(self):
        book = Book("jobs a b\nlet 1 0 0 0\nnot 1 1 1 0\nas 1 0 1 0 to 0 0 0 0")
        for value in any_values() + [0, 1, (), "let 1 0 0 0", book.facts]:
            self.assertIs(value in book, False)
        for fact in book.facts:
            self.assertIs(fact in book, True)
            for value in spoiled(fact):
                self.assertIs(value in book, False, value)

    def test_facts_of_other_jobs_are_none(self):
        book = Book("jobs a\nlet 1 0")
        self.assertIs(("let", ((1, 0), (0, 0))) in book, False)
        self.assertIs(("let", ((2, 0),)) in book, False)

    def test_arguments_by_name(self):
        book = Book(text=SAMPLE)
        self.assertEqual(book.manner(job="ann"), "clean")
        self.assertEqual(len(book.told(fact=("let", book.first))), 4)
        self.assertEqual(len(book.untold(number=0)), 2)


class NoBook(BookCase):
    """Texts that are no book."""

    def test_no_string(self):
        for value in any_values() + [0, 1, (), [SAMPLE], (SAMPLE,), Book(SAMPLE)]:
            if not isinstance(value, str):
                self.check_text(value, 0)

    def test_first_line(self):
        for text in ("", " ", "\n", "jobs", "jobs ", "jobs  a", " jobs a", "jobs a ", "Jobs a", "job a", "jobs,a",
                     "jobs\ta", "let 0 0", "clean a", "a", "jobs a b a", "jobs a a", "jobs a b c d e", "jobs a\tb",
                     "jobs A", "jobs a1", "jobs a_b", "jobs a-", "jobs `", "jobs {", "jobs abcdefghi", "jobs a  b",
                     "\njobs a"):
            self.check_text(text, 1)

    def test_names_just_within_bounds(self):
        for text in ("jobs a", "jobs z", "jobs abcdefgh", "jobs a b c d", "jobs az za", "jobs a aa aaa aaaaaaaa"):
            self.check_text(text, None)

    def test_manners(self):
        for line in ("clean a", "spent b", "free a"):
            self.check_text("jobs a b\n" + line, None)
            self.check_text("jobs a b\nlet 0 0 0 0\n" + line, 3)
        for line in ("plain a", "clean c", "clean", "clean ", "clean a ", " clean a", "clean  a", "clean a b", "a clean",
                     "Clean a", "clean A", "cleans a", "clean jobs", "free 0", "", " "):
            self.check_text("jobs a b\n" + line, 2)
            self.check_text("jobs a b\nfree b\n" + line, 3)
        for one, other in itertools.product(("clean", "spent", "free"), repeat=2):
            self.check_text(f"jobs a b\n{one} a\n{other} a", 3)
            self.check_text(f"jobs a b\n{one} a\n{other} b\n{one} a\n{other} a", 4)

    def test_a_line_too_many(self):
        for many, kind in itertools.product(range(1, 5), MOST):
            facts = some_facts(many, kind, MOST[kind] + 2)
            text = text_of(NAMES[:many], [], facts[:-2])
            self.check_text(text, None)
            self.check_text(f"{text}\n{line_of(facts[-2])}", MOST[kind] + 2)
            self.check_text(f"{text}\n{line_of(facts[-2])}\n{line_of(facts[-1])}\nno line", MOST[kind] + 2)
            filled = text_of(NAMES[:many], [], all_facts(many))
            self.check_text(filled, None)
            self.check_text(f"{filled}\n{line_of(facts[-1])}", 36)

    def test_lines_twice(self):
        for many in range(1, 5):
            facts = [some_facts(many, kind, 2)[at] for kind in MOST for at in range(2)]
            for at, fact in enumerate(facts):
                self.check_text(text_of(NAMES[:many], [], facts + [fact]), 8)
                self.check_text(text_of(NAMES[:many], [], facts[:at] + [fact] + facts[at:]), at + 3)
        self.check_text("jobs a\njobs a", 2)
        self.check_text("jobs a\nlet 0 0\njobs a", 3)

    def test_counts(self):
        for good in ("40 40", "40 0", "0 0", "1 1", "10 9", "39 39", "20 20"):
            for line in (f"let {good}", f"not {good}", f"as {good} to 7 3", f"as 7 3 to {good}"):
                self.check_text("jobs a\n" + line, None)
        for bad in ("41 0", "41 41", "40 41", "0 1", "9 10", "00 0", "0 00", "01 0", "1 01", "1 00", "010 0", "-1 0",
                    "0 -1", "+1 0", "1.0 0", "1", "1 0 0", "1 0 0 0", "", "1  0", " 1 0", "1 0 ", "1\t0", "a 0", "1 a",
                    "1,0", "1_0 0", "100 0", "400 0", "1 0\r", "1 ", "x", "4O 0", "1 0 to", "to 1 0", "9" * 5000 + " 0"):
            for line in (f"let {bad}", f"not {bad}", f"as {bad} to 7 3", f"as 7 3 to {bad}"):
                self.check_text("jobs a\n" + line, 2)
                self.check_text("jobs a\nspent a\nlet 7 3\n" + line, 4)

    def test_forms_of_facts(self):
        for line in ("let", "not", "as", "to", "let 1 0 to 0 0", "not 1 0 to 0 0", "as 1 0", "as 1 0 0 0", "as 1 0 to",
                     "as 1 0 to 1 0", "as 0 0 to 0 0", "as 1 0 to 0 0 to 0 0", "as 1 0 or 0 0", "as 1 0  to 0 0",
                     "as 1 0 to  0 0", "as 1 to 0 0 0", "as to 1 0 0 0", "Let 1 0", "lets 1 0", "let1 0", "may 1 0",
                     " let 1 0", "let  1 0", "", " ", "let 1 0 let 0 0", "1 0", "no 1 0", "free", "as 1 0 To 0 0"):
            self.check_text("jobs a\n" + line, 2)

    def test_numbers_of_each_job(self):
        for many in range(1, 5):
            for given in range(11):
                counts = " ".join(["0"] * given)
                text = f"{text_of(NAMES[:many], [], [])}\nlet {counts}"
                self.check_text(text, None if given == 2 * many else 2)
            for at in range(2 * many):
                counts = ["40"] * (2 * many)
                counts[at] = "41"
                self.check_text(f"{text_of(NAMES[:many], [], [])}\nlet {' '.join(counts)}", 2)

    def test_every_small_change_of_a_text(self):
        texts = ("jobs a\nlet 1 0", "jobs ab c\nfree c\nspent ab\nnot 10 9 0 0\nas 1 1 40 0 to 0 0 4 3",
                 "jobs a b\nlet 1 0 2 1\nas 1 0 2 0 to 1 0 2 1\nnot 4 0 0 0\nlet 1 0 0 0", SAMPLE)
        for text in texts:
            self.check_text(text, None)
            for at in range(len(text) + 1):
                for sign in ("", *" 0149abz-AX\n"):
                    for changed in (text[:at] + sign + text[at:], text[:at] + sign + text[at + 1:]):
                        self.check_text(changed, first_wrong_line(changed))

    def test_every_sequence_of_some_lines(self):
        lines = ("jobs a b", "clean b", "free a", "spent b", "let 1 0 0 0", "not 1 0 0 0", "as 1 0 0 0 to 0 0 0 0", "")
        for many in range(1, 6):
            for row in itertools.product(lines, repeat=many):
                if row[0] == lines[0] or many < 3:
                    self.check_text("\n".join(row), first_wrong_line("\n".join(row)))


class Equal(BookCase):
    """Equal books."""

    def test_equal_just_if_texts_are(self):
        texts = [SAMPLE, "jobs a", "jobs b", "jobs a b", "jobs b a", "jobs a b\nclean a", "jobs a b\nfree a",
                 "jobs a b\nclean a\nfree b", "jobs a b\nfree b\nclean a", "jobs a\nlet 1 0\nlet 2 0",
                 "jobs a\nlet 2 0\nlet 1 0", "jobs a\nnot 1 0", "jobs a\nas 1 0 to 2 0", "jobs a\nas 2 0 to 1 0"]
        for one, other in itertools.product(texts, repeat=2):
            self.assertIs(Book(one) == Book(other), one == other)
            self.assertIs(Book(one) != Book(other), one != other)

    def test_equal_to_nothing_else(self):
        book = Book(SAMPLE)
        others = any_values() + [0, 1, (), SAMPLE, book.facts, [book], (book,), {SAMPLE: book}, Book]
        for value in others:
            self.assertIs(book == value, False)
            self.assertIs(value == book, False)
            self.assertIs(book != value, True)

    def test_returned_books_are_read_back(self):
        book = Book("jobs a b c\nfree c\nclean a\nlet 1 0 0 0 0 0\nnot 2 0 0 0 0 0")
        other = Book("jobs a b c\nclean a\nfree c\nnot 2 0 0 0 0 0\nlet 12 3 0 0 40 0")
        head = "jobs a b c\nfree c\nclean a\n"
        texts = {
            head + "let 1 0 0 0 0 0\nnot 2 0 0 0 0 0\nas 1 0 0 0 0 0 to 0 0 1 1 0 0":
                book.told(("as", ((1, 0), (0, 0), (0, 0)), ((0, 0), (1, 1), (0, 0)))),
            head + "let 1 0 0 0 0 0\nnot 2 0 0 0 0 0\nnot 40 39 0 0 0 0":
                book.told(("not", ((40, 39), (0, 0), (0, 0)))),
            head + "not 2 0 0 0 0 0": book.untold(0),
            head + "let 1 0 0 0 0 0": book.untold(1),
            head.rstrip("\n"): book.untold(1).untold(0),
            head + "let 1 0 0 0 0 0\nnot 2 0 0 0 0 0\nlet 12 3 0 0 40 0": book | other,
            "jobs a b c\nclean a\nfree c\nnot 2 0 0 0 0 0\nlet 12 3 0 0 40 0\nlet 1 0 0 0 0 0": other | book,
        }
        for text, made in texts.items():
            self.assertIs(type(made), Book)
            self.assertEqual(made.text, text)
            self.assertEqual(made, Book(text))
            self.assertEqual(made.facts, Book(text).facts)
            self.assertEqual([made.manner(job) for job in "abc"], ["clean", "plain", "free"])


class Changed(BookCase):
    """told, untold and |."""

    def test_told_one_by_one(self):
        for many in range(1, 5):
            lined = [(job, "clean") for job in reversed(NAMES[:many])]
            facts = all_facts(many)
            book = Book(text_of(NAMES[:many], lined, []))
            for at, fact in enumerate(facts):
                before = book
                book = book.told(fact)
                self.assertEqual(before.text, text_of(NAMES[:many], lined, facts[:at]))
                self.assertEqual((before.facts, len(before)), (tuple(facts[:at]), at))
                self.assertEqual(book.text, text_of(NAMES[:many], lined, facts[:at + 1]))
                self.assertEqual(book.facts, tuple(facts[:at + 1]))
                self.assertEqual(book.told(facts[at // 2]), book)

    def test_told_what_is_no_fact(self):
        book = Book("jobs a b\nlet 1 0 0 0")
        good = [("let", ((1, 0), (0, 0))), ("not", ((40, 40), (1, 0))), ("as", ((1, 0), (1, 1)), ((1, 0), (0, 0)))]
        wrong = any_values() + [value for fact in good for value in spoiled(fact)]
        wrong = wrong + [
            0, 1, (), ("let", ((1, 0),)), ("let", ((1, 0), (0, 0), (0, 0))), ("let", ((0, 1), (0, 0))),
            ("let", ((1, 0), (41, 0))), ("let", ((41, 41), (0, 0))), ("let", ((1, -1), (0, 0))), ("may", ((1, 0), (0, 0))),
            ("as", ((1, 0), (0, 0))), ("as", ((1, 0), (0, 0)), ((1, 0), (0, 0))), ("let", ((1, 0), (0, 0)), ((0, 0), (0, 0))),
            ("as", ((1, 0), (0, 0)), ((0, 0),)), ("as", ((1, 0),), ((0, 0), (0, 0))), "let 1 0 0 0",
        ]
        for value in wrong:
            self.check_raises(BadFact, value, book.told, value)
        self.assertEqual(book.text, "jobs a b\nlet 1 0 0 0")

    def test_told_too_much(self):
        for many, kind in itertools.product(range(1, 5), MOST):
            facts = some_facts(many, kind, MOST[kind] + 1)
            book = Book(text_of(NAMES[:many], [], facts[:-1]))
            self.check_raises(Full, MOST[kind], book.told, facts[-1])
            for fact in facts[:-1]:
                self.assertEqual(book.told(fact), book)
            for other in MOST:
                fact = some_facts(many, other, MOST[kind] + 3)[-1]
                if other != kind:
                    self.assertEqual(book.told(fact).facts, (*book.facts, fact))
            wrong = (kind, ((0, 1),) * many)
            self.check_raises(BadFact, wrong, book.told, wrong)

    def test_untold(self):
        for many in range(1, 5):
            facts = all_facts(many)
            lined = [(NAMES[many - 1], "free")]
            book = Book(text_of(NAMES[:many], lined, facts))
            for at in range(len(facts)):
                left = facts[:at] + facts[at + 1:]
                self.assertEqual(book.untold(at).text, text_of(NAMES[:many], lined, left))
                self.assertEqual(book.untold(at).facts, tuple(left))
            self.assertEqual(book.facts, tuple(facts))
            for value in (34, 35, -34, 10 ** 14):
                self.check_raises(NoFact, value, book.untold, value)

    def test_untold_what_is_no_number(self):
        for book, most in ((Book(SAMPLE), 3), (Book("jobs a"), 0), (Book("jobs a\nlet 1 0"), 1)):
            for value in any_values() + [most, (), (0,), [0], "0", book]:
                self.check_raises(NoFact, value, book.untold, value)

    def test_both_together(self):
        one = Book("jobs a b\nclean a\nfree b\nlet 1 0 0 0\nas 1 0 0 0 to 2 0 0 0")
        other = Book("jobs a b\nfree b\nclean a\nas 2 0 0 0 to 1 0 0 0\nlet 1 0 0 0\nnot 1 0 0 0")
        self.assertEqual((one | other).facts, (*one.facts, other.facts[0], other.facts[2]))
        self.assertEqual((other | one).facts, (*other.facts, one.facts[1]))
        self.assertEqual((one | other).text.split("\n")[:3], ["jobs a b", "clean a", "free b"])
        self.assertEqual(one | one, one)
        self.assertEqual((len(one), len(other)), (2, 3))

    def test_both_together_with_other_jobs(self):
        texts = ["jobs a b", "jobs b a", "jobs a", "jobs a b c", "jobs a c", "jobs a b\nclean a", "jobs a b\nspent a",
                 "jobs a b\nfree a", "jobs a b\nclean b", "jobs a b\nclean a\nclean b"]
        filled = "".join(f"\nlet {at} 0 0 0" for at in range(24))
        for one, other in itertools.permutations(texts, 2):
            self.check_raises(OtherJobs, given := Book(other), Book(one).__or__, given)
            if one == "jobs a b":
                self.check_raises(OtherJobs, given, Book(one + filled).__or__, given)

    def test_both_together_too_much(self):
        for kind in MOST:
            facts = some_facts(2, kind, MOST[kind] + 1)
            one = Book(text_of("ab", [], facts[:-1]))
            self.assertEqual(one | Book(text_of("ab", [], facts[:-1][::-1])), one)
            self.check_raises(Full, MOST[kind], one.__or__, Book(text_of("ab", [], facts[-1:])))
            self.assertEqual(one.facts, tuple(facts[:-1]))

    def test_both_together_first_that_is_too_much(self):
        one = Book(text_of("ab", [], all_facts(2)))
        last = {kind: some_facts(2, kind, MOST[kind] + 1)[-1] for kind in MOST}
        for row in itertools.permutations(MOST):
            other = Book(text_of("ab", [], [one.facts[3], *[last[kind] for kind in row]]))
            self.check_raises(Full, MOST[row[0]], one.__or__, other)
        less = one.untold([fact[0] for fact in one.facts].index("let"))
        other = Book(text_of("ab", [], [last["let"], last["not"], last["as"]]))
        self.check_raises(Full, 6, less.__or__, other)


class HoweverItCameAbout(unittest.TestCase):
    def check_as_read(self, book):
        read = Book(book.text)
        self.assertEqual((book.jobs, book.first, book.facts, len(book)), (read.jobs, read.first, read.facts, len(read)))
        self.assertEqual([book.manner(job) for job in book.jobs], [read.manner(job) for job in read.jobs])
        self.assertEqual(sorted(vars(book)), sorted(vars(read)))
        self.assertTrue(book == read and type(book) is Book)
        self.assertTrue(all(fact in book for fact in read.facts))

    def test_chains_of_deeds(self):
        chance = random.Random(7)
        full = 0
        for _ in range(60):
            names = NAMES[:chance.randint(1, 4)]
            lined = [(job, chance.choice(("clean", "spent", "free"))) for job in names if chance.randint(0, 1)]
            chance.shuffle(lined)
            facts = all_facts(len(names))
            books = [Book(text_of(names, lined, chance.sample(facts, chance.randint(0, 34)))) for _ in range(2)]
            for _ in range(12):
                book, other = chance.choice(books), chance.choice(books)
                before = [(one, one.text, one.facts) for one in (book, other)]
                day = [("begin", chance.choice(names)) for _ in range(3)] + [("as", chance.randint(0, 3))]
                deeds = [lambda: book.told(chance.choice(facts)), lambda: book | other, lambda: heard(book, tuple(day))]
                if len(book) > 0:
                    deeds.append(lambda: book.untold(chance.randrange(len(book))))
                try:
                    books.append(chance.choice(deeds)())
                except Full:
                    full += 1
                self.check_as_read(books[-1])
                for one, text, held in before:
                    self.assertEqual((one.text, one.facts), (text, held))
        self.assertGreater(full, 5)

    def test_a_day_is_told_fact_by_fact(self):
        book = Book(SAMPLE)
        day = (("begin", "bob"), ("begin", "ann"), ("begin", "ann"), ("no", "begin", "ann"), ("end", "ann"), ("as", 2))
        told = book
        for fact in heard(Book("jobs ann bob\nclean ann"), day).facts:
            told = told.told(fact)
        self.assertEqual(heard(book, day), told)
        self.check_as_read(heard(book, day))


if __name__ == "__main__":
    unittest.main()
