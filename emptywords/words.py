"""Words, syllable by syllable; what undoes one another goes out, neighbours are put together."""

from emptywords.basics import check_pair, integer_text, is_numeral, is_power, is_sign, told_integer
from emptywords.errors import BadPower, BadText, BadWord
from emptywords.pairs import check_machine

GROUND_LETTERS = ("x", "y", "t")


def is_any_hand(letter):
    """Whether the string is a hand of some machine, however many rows it has."""
    return letter.startswith("h") and is_numeral(letter[1:])


def are_syllables(value, is_hand):
    """Whether any value is a tuple of SYLLABLES; is_hand is a function that tells which strings are hands."""
    return isinstance(value, tuple) and all([_is_syllable(part, is_hand) for part in value])


def _is_syllable(value, is_hand):
    if not isinstance(value, tuple) or len(value) != 2 or not isinstance(value[0], str):
        return False
    letter, power = value
    if letter in GROUND_LETTERS:
        return is_power(power)
    return (letter == "k" or is_hand(letter)) and is_sign(power)


def _hand_test(machine):
    """The function that tells which strings are hands of the machine."""
    hands = {f"h{number}": True for number in range(len(machine.rows))}
    return lambda letter: letter in hands


def is_word(machine, value):
    """Whether any value is a WORD of the machine."""
    return are_syllables(value, _hand_test(machine))


def check_word(machine, word):
    """NoMachine for the machine, then BadWord for the word."""
    check_machine(machine)
    if not is_word(machine, word):
        raise BadWord(word)


def freed(machine, word):
    """The word, freed."""
    check_word(machine, word)
    return free_word(word)


def undone(machine, word):
    """The word, undone."""
    check_word(machine, word)
    return undo_word(word)


def moved(pair, power):
    """t MOVED by the PAIR, to this power."""
    check_pair(pair)
    if not is_power(power):
        raise BadPower(power)
    return move_t(pair, power)


def word_text(machine, word):
    """Letters and powers of the word, in sequence, parted by one blank."""
    check_word(machine, word)
    return " ".join([f"{letter} {integer_text(power)}" for letter, power in word])


def read_word(machine, text):
    """The word with this text."""
    check_machine(machine)
    if not isinstance(text, str):
        raise BadText(0)
    is_hand = _hand_test(machine)
    parts = text.split(" ") if text else []
    word = []
    for at in range(0, len(parts), 2):
        # Each letter can have the power 1.
        if not _is_syllable((parts[at], 1), is_hand):
            raise BadText(at + 1)
        power = told_integer(parts[at + 1]) if at + 1 < len(parts) else None
        if not _is_syllable((parts[at], power), is_hand):
            raise BadText(at + 2)
        word.append((parts[at], power))
    return tuple(word)


def put_part(kept, key, power, sums):
    """Put (key, power) behind the list of kept ones, in which nothing is left to be freed, nor is then.

    Beside one with the same key it goes out if one undoes the other; both are made one if sums holds.
    """
    if kept and kept[-1][0] == key and (sums or kept[-1][1] == -power):
        power = power + kept.pop()[1]
    if power != 0:
        kept.append((key, power))


def put_word(kept, word):
    """Put the word's syllables behind the list of kept ones, which is freed and stays so."""
    for letter, power in word:
        put_part(kept, letter, power, letter in GROUND_LETTERS)


def free_word(word):
    """The word, freed, the values being checked."""
    kept = []
    put_word(kept, word)
    return tuple(kept)


def undo_word(word):
    """The word, undone, the values being checked."""
    return tuple([(letter, -power) for letter, power in reversed(word)])


def move_t(pair, power):
    """t MOVED by the PAIR, to this power, the values being checked."""
    r, s = pair
    whole = (("y", -s), ("x", -r), ("t", power), ("x", r), ("y", s))
    return tuple([syllable for syllable in whole if syllable[1] != 0])
