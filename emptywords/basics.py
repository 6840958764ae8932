"""What the modules share: checks of values, texts read word by word, going on step by step."""

from emptywords.errors import BadMost, BadPair

MOST_STEPS = 400
SIDES = ("right", "left")
FIGURES = "0123456789"


def is_integer(value):
    # Python takes a bool for an int; the document does not.
    return isinstance(value, int) and not isinstance(value, bool)


def is_within(value, low, high):
    """Whether any value is an integer from low to high."""
    return is_integer(value) and low <= value <= high


def is_pair(value):
    """Whether any value is a PAIR."""
    if not isinstance(value, tuple) or len(value) != 2:
        return False
    return is_integer(value[0]) and is_integer(value[1])


def is_power(value):
    """Whether any value is an integer but 0."""
    return is_integer(value) and value != 0


def is_sign(value):
    """Whether any value is 1 or -1."""
    return is_integer(value) and value in (1, -1)


def check_most(most):
    if not is_within(most, 1, MOST_STEPS):
        raise BadMost(most)


def check_pair(pair):
    if not is_pair(pair):
        raise BadPair(pair)


def numerals(low, high):
    """The integers from low to high as texts tell them."""
    return [str(number) for number in range(low, high + 1)]


def is_numeral(word):
    """Whether the string tells an integer from 0 on, as Python writes it."""
    # Not isdigit, which takes figures of other scripts, too.
    if word == "" or not all([sign in FIGURES for sign in word]):
        return False
    return word[0] != "0" or word == "0"


def told_integer(word):
    """The integer that the string tells, as Python writes it; None if it tells none."""
    figures = word.removeprefix("-")
    if not is_numeral(figures) or word == "-0":
        return None
    # Figure by figure, as int refuses strings of more than 4300 figures.
    number = 0
    for figure in figures:
        number = number * 10 + int(figure)
    return number if figures == word else -number


def integer_text(number):
    """The integer as Python writes it."""
    # Part by part, as str refuses integers of more than 4300 figures.
    parts, left = [], abs(number)
    while left >= 10 ** 60:
        left, part = divmod(left, 10 ** 60)
        parts.append(str(part).zfill(60))
    parts.append(str(left))
    return ("-" if number < 0 else "") + "".join(reversed(parts))


def word_places(line, kinds):
    """The place of each word of the line in its kind, the sequence of those that may stand there.

    None if one of the words may not stand there, or one is missing or too much.
    """
    # Looking words up, instead of reading them as integers, refuses 01, +1 and the like.
    words = line.split(" ")
    if len(words) != len(kinds):
        return None
    if not all([word in kind for word, kind in zip(words, kinds)]):
        return None
    return [kind.index(word) for word, kind in zip(words, kinds)]


def told_number(line, name, low, high):
    """The integer from low to high that the line tells behind the name; None if it tells none."""
    places = word_places(line, [[name], numerals(low, high)])
    return None if places is None else low + places[1]


def good_rows(lines, kinds, barred):
    """The word_places of the lines, up to the first line that cannot stand behind those ahead.

    The places of words 1 and 2 make a row's key: none is among the barred ones, none stands twice.
    """
    taken = {key: True for key in barred}
    rows = []
    for line in lines:
        places = word_places(line, kinds)
        if places is None or (places[1], places[2]) in taken:
            return rows
        taken[(places[1], places[2])] = True
        rows.append(places)
    return rows


def gone(step, start, most):
    """The tuple of the first places from start on, at most most.

    step is a function that tells what follows a place, None if nothing does.
    """
    places = [start]
    while len(places) < most:
        behind = step(places[-1])
        if behind is None:
            break
        places.append(behind)
    return tuple(places)


def first_steps(places):
    """Behind how many steps each of the places stands first."""
    steps_of = {}
    for steps, place in enumerate(places):
        steps_of.setdefault(place, steps)
    return steps_of


def outcome(step, start, most):
    """What is known of the places behind 0, 1, .. most steps from start.

    ("round", first, length) if one stood behind first steps and again length steps later;
    ("stops", steps, place) if nothing follows one; else ("on", place), the one behind most steps.
    """
    # One that stands again goes on for ever, so the sequence of these two tests is free.
    places = gone(step, start, most + 1)
    steps_of = first_steps(places)
    for steps, place in enumerate(places):
        if steps_of[place] < steps:
            return ("round", steps_of[place], steps - steps_of[place])
    if step(places[-1]) is None:
        return ("stops", len(places) - 1, places[-1])
    return ("on", places[-1])
