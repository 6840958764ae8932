"""A desk: a bench at which lines are said, and answered."""

from emptywords.basics import integer_text, told_integer
from emptywords.books import singles
from emptywords.errors import BadTask
from emptywords.journals import do_deed, read_journal, told_deed
from emptywords.words import word_text


class Desk:
    """The bench of a journal, at which lines are done."""

    def __init__(self, text):
        self.bench = read_journal(text)

    def say(self, line):
        """Do what the line tells, and answer."""
        if not isinstance(line, str) or "\n" in line:
            raise BadTask(line)
        bench = self.bench
        if line in ("word", "beginning"):
            word = bench.word if line == "word" else bench.beginning
            return word_text(bench.machine, word) if word else "none"
        if line == "singles":
            return integer_text(singles(bench.machine, bench.product()))
        most = _told_most(line)
        if most is not None:
            return _verdict_text(bench.verdict(most))
        _do(bench, line)
        return "done"


def _told_most(line):
    """The integer that a line tells behind verdict; None for other lines."""
    words = line.split(" ")
    return told_integer(words[1]) if len(words) == 2 and words[0] == "verdict" else None


def _verdict_text(told):
    if told[0] == "open":
        return " ".join(["open", integer_text(told[1][0]), integer_text(told[1][1])])
    return told[0]


def _do(bench, line):
    """Do the deed that the line tells, or take one back, or do it again."""
    if line == "undo":
        bench.undo()
    elif line == "redo":
        bench.redo()
    else:
        deed = told_deed(line)
        if deed is None:
            raise BadTask(line)
        do_deed(bench, deed)
