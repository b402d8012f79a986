"""A desk, where a bench is led, and asked, by lines."""

from unseenstocks.benches import day_standings, standing_behind
from unseenstocks.errors import BadLine
from unseenstocks.explaining import bars, fewest
from unseenstocks.journals import do_deed, is_event_told, read_journal
from unseenstocks.sparing import spare


class Desk:
    """The bench of a journal, led by what is said."""

    def __init__(self, text):
        self.bench = read_journal(text)

    def say(self, line):
        """The answer to a line."""
        if not isinstance(line, str) or "\n" in line:
            raise BadLine(line)
        if do_deed(self.bench, line):
            return "ok"
        if line == "undo":
            self.bench.undo()
            return "ok"
        if line == "redo":
            self.bench.redo()
            return "ok"
        return answer(self.bench, line)


def answer(bench, line):
    """The answer to a line that only asks."""
    words = line.split(" ")
    if words[0] == "may" and is_event_told(words[1:]):
        return bench.judged(("lets", standing_behind(bench, tuple(words[1:]))))[0]
    if len(words) == 2 and words[0] == "spare" and words[1] != "":
        return numbers_text(spare(bench.book, day_standings(bench)[-1], words[1]))
    if line == "stocks":
        return str(fewest(bench.book)[0])
    if line == "bars":
        return ", ".join([numbers_text(lot) for lot in bars(bench.book)]) or "-"
    raise BadLine(line)


def numbers_text(numbers):
    """Numbers parted by blanks."""
    return " ".join([str(number) for number in numbers])
