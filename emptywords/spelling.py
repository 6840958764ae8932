"""Spelled runs: the hands of a run, one behind another, lead t moved by its first pair to its last one."""

from emptywords.basics import check_pair, first_steps
from emptywords.errors import BadWord, NoRun, NotEnded
from emptywords.hands import emptying, hand_number, pair_passed
from emptywords.pairs import check_machine, comes, goes, run
from emptywords.words import free_word, is_word, move_t, undo_word


def check_hands(machine, hands):
    """BadWord unless these are a row of hands."""
    if not is_word(machine, hands) or not all([letter.startswith("h") and power == 1 for letter, power in hands]):
        raise BadWord(hands)


def hands_word(machine, pair, most):
    """The hands of the PAIR's run to (0, 0)."""
    told = comes(machine, pair, most)
    if told[0] != "ends":
        raise NotEnded(told)
    return _hands_by(machine, run(machine, pair, most)[:told[1]])


def _hands_by(machine, places):
    """The hands of the rows that go by these PAIRS."""
    return tuple([(f"h{goes(machine, place)}", 1) for place in places])


def spelled_word(machine, pair, most):
    """The word, freed, by which the hands of the PAIR's run lead t, moved by it, to t."""
    return word_of_run(pair, 1, hands_word(machine, pair, most))


def word_of_run(pair, power, hands):
    """The word, freed, by which the hands lead t, moved by the PAIR, to t, both to this power."""
    return free_word(undo_word(hands) + move_t(pair, power) + hands + (("t", -power),))


def spelled_paper(machine, pair, most):
    """A PRODUCT for the PAIR's spelled word."""
    return emptying(machine, spelled_word(machine, pair, most))


def led_by(machine, pair, hands):
    """How far the hands, one behind another, lead t, moved by the PAIR."""
    check_machine(machine)
    check_pair(pair)
    check_hands(machine, hands)
    here = pair
    for number, (letter, _) in enumerate(hands):
        behind = pair_passed(machine, hand_number(letter), here, 1)
        if behind is None:
            return ("stays", number, here)
        here = behind
    return ("led", here)


def run_in(machine, hands):
    """The tuple of the PAIRS of the run to (0, 0) that has these hands."""
    check_machine(machine)
    check_hands(machine, hands)
    places = [(0, 0)]
    for number in reversed(range(len(hands))):
        ahead = pair_passed(machine, hand_number(hands[number][0]), places[-1], -1)
        if ahead is None:
            raise NoRun(number)
        places.append(ahead)
    return tuple(reversed(places))


def linked(machine, one, other, most):
    """("meet", the word of the hands by which both runs meet), ("apart",) or ("open",)."""
    check_machine(machine)
    check_pair(one)
    check_pair(other)
    places, other_places = run(machine, one, most), run(machine, other, most)
    behind = first_steps(other_places)
    for steps, place in enumerate(places):
        if place in behind:
            hands = _hands_by(machine, places[:steps])
            return ("meet", hands + undo_word(_hands_by(machine, other_places[:behind[place]])))
    if _is_known(places, most) and _is_known(other_places, most):
        return ("apart",)
    return ("open",)


def _is_known(places, most):
    """Whether the run's PAIRS tell all that come: it stops, or it goes round."""
    return len(places) < most or len(first_steps(places)) < len(places)


def linking_paper(machine, one, other, most):
    """A PRODUCT for the word by which the hands lead t, moved by one, to t, moved by other."""
    told = linked(machine, one, other, most)
    if told[0] != "meet":
        raise NotEnded(told)
    hands = told[1]
    word = undo_word(hands) + move_t(one, 1) + hands + undo_word(move_t(other, 1))
    return emptying(machine, word)
