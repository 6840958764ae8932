"""k goes with t and with all hands: so whether a word is empty can hang on runs, and on nothing else."""

from emptywords.basics import check_most, check_pair, is_pair
from emptywords.books import is_product
from emptywords.ground import forms_joined
from emptywords.hands import NOTHING, check_no_k, comes_to_nothing, emptying, form_passed, hand_number, told_tower
from emptywords.pairs import comes
from emptywords.spelling import hands_word, word_of_run
from emptywords.words import check_word, free_word, is_word, move_t, put_word, undo_word


def lot(machine, word, most):
    """("in", a word of t and hands alone that is alike to the word), ("out",), or ("open", PAIR)."""
    check_no_k(machine, word)
    check_most(most)
    told = _lot_by_pieces(machine, word, most)
    if told[0] != "in":
        return told
    return ("in", _together([_spelled_word(machine, piece, most) for piece in told[1]]))


def shows_lot(machine, word, most, value):
    """Whether any value is a right result of lot."""
    told = lot(machine, word, most)
    if told[0] != "in":
        return _is_told(value, told)
    if not isinstance(value, tuple) or len(value) != 2 or value[0] != "in" or not is_word(machine, value[1]):
        return False
    if any([letter in ("x", "y", "k") for letter, _ in value[1]]):
        return False
    return comes_to_nothing(machine, word + undo_word(value[1]))


def _is_told(value, told):
    """Whether any value is ("out",) or ("open", PAIR), as it is told."""
    # True is not 1, though Python has them equal.
    return value == told and (told[0] == "out" or is_pair(value[1]))


def _lot_by_pieces(machine, word, most):
    """What lot tells of the word without k, but with "in" the pieces of a word alike to it, in sequence.

    Each of them is a STEP, or (PAIR, power): t moved by a PAIR whose run ends.
    """
    tower = told_tower(machine, word)
    gone_by, rest, pieces = NOTHING, NOTHING, []
    for at in range(0, len(tower), 2):
        ts, p, q = forms_joined(gone_by, tower[at])
        many, waiting = _put_aside(machine, ts, most)
        if waiting is not None:
            return ("open", waiting)
        pieces.extend(ts[:many])
        rest = (ts[many:], p, q)
        if at + 1 < len(tower):
            letter, power = tower[at + 1]
            gone_by = form_passed(machine, hand_number(letter), rest, power)
            if gone_by is None:
                return ("out",)
            pieces.append((letter, power))
    return ("in", pieces) if rest == NOTHING else ("out",)


def _put_aside(machine, ts, most):
    """How many of the moved t's, from the first one on, have runs that end; and the next PAIR if that is open."""
    for number, (pair, _) in enumerate(ts):
        told = comes(machine, pair, most)
        if told[0] == "open":
            return (number, pair)
        if told[0] == "never":
            return (number, None)
    return (len(ts), None)


def _is_step(piece):
    return isinstance(piece[0], str)


def _short_word(piece):
    """The piece's word, t being moved."""
    return (piece,) if _is_step(piece) else move_t(piece[0], piece[1])


def _spelled_word(machine, piece, most):
    """The piece's word, t standing behind the hands of the run and ahead of the same undone."""
    if _is_step(piece):
        return (piece,)
    hands = hands_word(machine, piece[0], most)
    return hands + (("t", piece[1]),) + undo_word(hands)


def verdict(machine, word, most):
    """("empty",), ("not",), or ("open", PAIR)."""
    check_word(machine, word)
    check_most(most)
    return _verdict_of(machine, _without_pinches(machine, word, most))


def _without_pinches(machine, word, most):
    """("left", the word that is left when all k's went out that can, how they did), or ("open", PAIR).

    How they did: for each two, in sequence, (what stood ahead of both, the later one's power, what stands
    between them, its pieces).
    """
    kept, places, pinches = [], [], []
    for letter, power in word:
        told, between = ("out",), ()
        if letter == "k" and places and kept[places[-1]] == ("k", -power):
            between = tuple(kept[places[-1] + 1:])
            told = _lot_by_pieces(machine, between, most)
        if told[0] == "open":
            return told
        if told[0] == "in":
            at = places.pop()
            del kept[at]
            pinches.append((tuple(kept[:at]), power, between, told[1]))
        else:
            if letter == "k":
                places.append(len(kept))
            kept.append((letter, power))
    return ("left", tuple(kept), pinches)


def _verdict_of(machine, told):
    """The verdict of the word of which this is told when its k's went out."""
    if told[0] == "open":
        return told
    if _has_k(told[1]) or not comes_to_nothing(machine, told[1]):
        return ("not",)
    return ("empty",)


def _has_k(word):
    return any([letter == "k" for letter, _ in word])


def top_why(machine, word, most):
    """The verdict, with a PRODUCT for the word that is empty, or what is left of the one that is not."""
    check_word(machine, word)
    check_most(most)
    told = _without_pinches(machine, word, most)
    verdict_told = _verdict_of(machine, told)
    if verdict_told[0] == "open":
        return verdict_told
    if verdict_told[0] == "not":
        return ("not", told[1])
    product = []
    for ahead, power, between, pieces in told[2]:
        by_k = _word_by_k(machine, between, pieces, most)
        # k, the word, k undone, the word undone is this: what by_k tells, undone, and moved by k.
        if power == -1:
            by_k = _moved(_undone(by_k), (("k", 1),))
        product.extend(_moved(by_k, ahead))
    product.extend(emptying(machine, told[1]))
    return ("empty", tuple(product))


def shows_top_why(machine, word, most, value):
    """Whether any value is a right result of top_why."""
    told = verdict(machine, word, most)
    if not isinstance(value, tuple) or len(value) != 2 or value[0] != told[0]:
        return False
    if told[0] == "open":
        return _is_told(value, told)
    if told[0] == "empty":
        return is_product(machine, word, value[1])
    left = value[1]
    if not is_word(machine, left) or not _has_no_pinch(machine, left, most):
        return False
    if verdict(machine, left, most) != ("not",):
        return False
    return verdict(machine, word + undo_word(left), most) == ("empty",)


def _has_no_pinch(machine, word, most):
    """Whether between any two neighbouring k's, of which one undoes the other, stands what is out."""
    places = [at for at, (letter, _) in enumerate(word) if letter == "k"]
    for one, other in zip(places, places[1:]):
        if word[one][1] != word[other][1]:
            if _lot_by_pieces(machine, word[one + 1:other], most) != ("out",):
                return False
    return True


def word_of_pair(pair):
    """The word that is empty just if the PAIR's run ends."""
    check_pair(pair)
    moved_t = move_t(pair, 1)
    return (("k", -1),) + moved_t + (("k", 1),) + undo_word(moved_t)


def _moved(product, word):
    """The parts of the product, moved by the word."""
    return [(free_word(word + mover), row, sign) for mover, row, sign in product]


def _undone(product):
    """The parts for the product's word undone."""
    return [(mover, row, -sign) for mover, row, sign in reversed(product)]


def _word_by_k(machine, word, pieces, most):
    """The parts for k undone, the word, k, the word undone; it is alike to its pieces, put together."""
    paper = emptying(machine, word + undo_word(_together([_short_word(piece) for piece in pieces])))
    parts = [(_short_word(piece), _piece_by_k(machine, piece, most)) for piece in pieces]
    return _by_k(paper, _all_by_k(parts))


def _piece_by_k(machine, piece, most):
    """The parts for k undone, the piece's short word, k, that word undone."""
    if _is_step(piece):
        return _letter_by_k(piece)
    pair, power = piece
    hands = hands_word(machine, pair, most)
    paper = _moved(emptying(machine, word_of_run(pair, power, hands)), hands)
    spelled = _spelled_word(machine, piece, most)
    return _by_k(paper, _all_by_k([((syllable,), _letter_by_k(syllable)) for syllable in spelled]))


def _letter_by_k(syllable):
    """The parts for k undone, the syllable of t or a hand, k, the syllable undone."""
    letter, power = syllable
    if letter == "t":
        return [((), ("kt", power), 1)]
    row = ("kh", hand_number(letter))
    return [((), row, 1)] if power == 1 else [((syllable,), row, -1)]


def _all_by_k(parts):
    """The parts for k undone, some words put together, k, and these undone; each word comes with its own parts."""
    product, ahead = [], ()
    for word, told in parts:
        product.extend(_moved(told, ahead))
        ahead = free_word(ahead + word)
    return product


def _by_k(paper, by_k):
    """The parts for k undone, one word, k, and it undone; paper is that for it with another one undone behind it.

    by_k are these parts for the other one.
    """
    return _moved(paper, (("k", -1),)) + by_k + _undone(paper)


def _together(some):
    """The words put together, freed."""
    kept = []
    for word in some:
        put_word(kept, word)
    return tuple(kept)
