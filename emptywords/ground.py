"""The ground: words of x, y and t alone, where x and y go by one another, and t by nothing."""

from emptywords.basics import check_pair, is_integer, is_pair, is_power
from emptywords.books import are_moved_rows, moved_rows_word, turn_word
from emptywords.errors import BadForm, BadWord, HasHands
from emptywords.words import GROUND_LETTERS, are_syllables, free_word, is_any_hand
from emptywords.words import move_t, put_part, put_word, undo_word


def check_ground_word(word):
    """BadWord, then HasHands for the word."""
    if not are_syllables(word, is_any_hand):
        raise BadWord(word)
    for number, (letter, _) in enumerate(word):
        if letter not in GROUND_LETTERS:
            raise HasHands(number)


def is_form(value):
    """Whether any value is a FORM."""
    if not isinstance(value, tuple) or len(value) != 3:
        return False
    ts, p, q = value
    return _are_moved_ts(ts) and is_integer(p) and is_integer(q)


def _are_moved_ts(value):
    """Whether any value is a tuple of (PAIR, power), neighbours with unlike PAIRS."""
    if not isinstance(value, tuple) or not all([_is_moved_t(part) for part in value]):
        return False
    return all([one[0] != other[0] for one, other in zip(value, value[1:])])


def _is_moved_t(value):
    return isinstance(value, tuple) and len(value) == 2 and is_pair(value[0]) and is_power(value[1])


def check_form(form):
    if not is_form(form):
        raise BadForm(form)


def form(word):
    """The FORM of the ground word."""
    check_ground_word(word)
    return form_of(word)


def form_word(form):
    """The FORM's word."""
    check_form(form)
    return word_of_form(form)


def times(one, other):
    """The FORM of one's word with other's behind it."""
    check_form(one)
    check_form(other)
    return forms_joined(one, other)


def form_undone(form):
    """The FORM of the FORM's word undone."""
    check_form(form)
    ts, p, q = form
    turned = [(pair, -power) for pair, power in reversed(ts)]
    # x -p y -q stands ahead of these t's, and goes behind them.
    return (_shifted(turned, p, q), -p, -q)


def moved_form(form, pair):
    """The FORM of the FORM's word with y -s x -r ahead and x r y s behind, the PAIR being (r, s)."""
    check_form(form)
    check_pair(pair)
    ts, p, q = form
    return (_shifted(ts, pair[0], pair[1]), p, q)


def ground_alike(one, other):
    """Whether both ground words are alike on the ground."""
    check_ground_word(one)
    check_ground_word(other)
    return form_of(one) == form_of(other)


class OpenForm:
    """A FORM behind which more is put: ts is the list of its moved t's, p and q are its lengths."""

    def __init__(self):
        self.ts = []
        self.p = 0
        self.q = 0

    def put(self, letter, power):
        """Put a syllable of x, y or t behind."""
        if letter == "x":
            self.p += power
        elif letter == "y":
            self.q += power
        else:
            # t behind x p y q is t moved by (-p, -q) ahead of it.
            put_part(self.ts, (-self.p, -self.q), power, True)

    def put_form(self, form):
        """Put the FORM's word behind."""
        ts, p, q = form
        for pair, power in _shifted(ts, -self.p, -self.q):
            put_part(self.ts, pair, power, True)
        self.p += p
        self.q += q

    def told(self):
        """The FORM as it is now."""
        return (tuple(self.ts), self.p, self.q)


def form_of(word):
    """The FORM of the ground word, the values being checked."""
    here = OpenForm()
    for letter, power in word:
        here.put(letter, power)
    return here.told()


def word_of_form(form):
    """The FORM's word, the values being checked."""
    ts, p, q = form
    kept = []
    for pair, power in ts:
        put_word(kept, move_t(pair, power))
    put_part(kept, "x", p, True)
    put_part(kept, "y", q, True)
    return tuple(kept)


def forms_joined(one, other):
    """The FORM of one's word with other's behind it, the values being checked."""
    here = OpenForm()
    here.put_form(one)
    here.put_form(other)
    return here.told()


def _shifted(ts, r, s):
    """The moved t's, moved by (r, s), too."""
    return tuple([((pair[0] + r, pair[1] + s), power) for pair, power in ts])


def ground_paper(word):
    """A PRODUCT of rows ("xy", p, q) for the word with its FORM's word undone behind it."""
    check_ground_word(word)
    # What was gone through is always: the paper's word, ahead, x p, y q; ahead being made of moved t's.
    paper, ahead, p, q = [], [], 0, 0
    for letter, power in free_word(word):
        if letter == "y":
            q = q + power
        elif letter == "x":
            # Behind ahead and x p, y q x power becomes x power y q.
            paper.append((_with_x(ahead, p), ("xy", power, q), -1))
            p = p + power
        else:
            # Behind ahead, x p y q becomes y q x p, and, as soon as t is moved, becomes x p y q again.
            paper.append((tuple(ahead), ("xy", p, q), 1))
            put_word(ahead, move_t((-p, -q), power))
            paper.append((tuple(ahead), ("xy", p, q), -1))
    # A row with 0 is none: there is nothing to go by.
    return tuple([part for part in paper if 0 not in part[1]])


def _with_x(ahead, p):
    mover = list(ahead)
    put_part(mover, "x", p, True)
    return tuple(mover)


def shows_ground_paper(word, value):
    """Whether any value is a right result of ground_paper for the word."""
    check_ground_word(word)
    if not are_moved_rows(value, _is_ground_word, _is_turn):
        return False
    wanted = free_word(word + undo_word(word_of_form(form_of(word))))
    return moved_rows_word(value, lambda row: turn_word(row[1], row[2])) == wanted


def _is_ground_word(value):
    """Whether any value is a GROUND WORD: a tuple of syllables without hands and k."""
    return are_syllables(value, is_any_hand) and all([letter in GROUND_LETTERS for letter, _ in value])


def _is_turn(value):
    """Whether any value is a row ("xy", p, q)."""
    if not isinstance(value, tuple) or len(value) != 3:
        return False
    return value[0] == "xy" and is_power(value[1]) and is_power(value[2])
