"""Journals: the text of a bench's machine, and a line for each deed that stands."""

from emptywords.basics import integer_text, told_integer
from emptywords.benches import Bench
from emptywords.errors import BadExchange, BadJournal, BadMachine, BadWord
from emptywords.words import word_text


def journal(bench):
    """The text of what was done at the bench."""
    lines = [bench.machine.text, "deeds"]
    lines.extend([_deed_line(bench.machine, deed) for deed in bench.told()])
    return "\n".join(lines)


def _deed_line(machine, deed):
    """The line of a deed as the bench tells it."""
    if deed[0] == "begin":
        return " ".join(["begin"] + ([word_text(machine, deed[1])] if deed[1] else []))
    _, at, cut, row, sign = deed
    numbers = [integer_text(number) for number in row[1:]]
    return " ".join(["exchange", integer_text(at), integer_text(cut), integer_text(sign), row[0]] + numbers)


def told_deed(line):
    """The deed that the line tells, as a bench tells it, whether or not it can be done; None for no such line."""
    words = line.split(" ")
    if "" in words:
        return None
    if words[0] == "begin":
        letters, powers = words[1::2], _integers(words[2::2])
        if powers is None or len(letters) != len(powers):
            return None
        return ("begin", tuple(zip(letters, powers)))
    if words[0] != "exchange" or len(words) < 5:
        return None
    places, numbers = _integers(words[1:4]), _integers(words[5:])
    if places is None or numbers is None:
        return None
    at, cut, sign = places
    return ("exchange", at, cut, (words[4],) + tuple(numbers), sign)


def _integers(words):
    """The list of the integers that these words tell; None if one of them tells none."""
    numbers = [told_integer(word) for word in words]
    return None if None in numbers else numbers


def do_deed(bench, deed):
    """Do at the bench what is told as a bench tells it."""
    if deed[0] == "begin":
        bench.begin(deed[1])
    else:
        _, at, cut, row, sign = deed
        bench.exchange(at, cut, row, sign)


def read_journal(text):
    """The bench on which what the text tells was done."""
    if not isinstance(text, str):
        raise BadJournal(0)
    lines = text.split("\n")
    if "deeds" not in lines:
        raise BadJournal(len(lines) + 1)
    at = lines.index("deeds")
    # If none stands ahead, this is the text without signs: its line 1 is at fault, which is that of deeds.
    bench = _told_bench("\n".join(lines[:at]))
    for number, line in enumerate(lines[at + 1:]):
        if not _is_done(bench, told_deed(line)):
            raise BadJournal(at + number + 2)
    return bench


def _told_bench(text):
    try:
        return Bench(text)
    except BadMachine as error:
        raise BadJournal(error.value)


def _is_done(bench, deed):
    """Whether it is a deed, and the bench did it."""
    if deed is None:
        return False
    try:
        do_deed(bench, deed)
    except (BadWord, BadExchange):
        return False
    return True
