"""The book of a machine: rows tell words that are empty, by exchanges they are put in anywhere."""

from emptywords.basics import is_integer, is_power, is_sign, is_within
from emptywords.errors import BadExchange, BadProduct, BadRow, NotEmpty
from emptywords.pairs import check_machine
from emptywords.words import GROUND_LETTERS, check_word, free_word, is_word, move_t, put_word, undo_word

# What the numbers behind the first item of a ROW are, by this item.
ROW_NUMBERS = {
    "xy": ("power", "power"),
    "x": ("hand", "power"),
    "y": ("hand", "power"),
    "t": ("hand", "power"),
    "kt": ("power",),
    "kh": ("hand",),
}


def is_row(machine, value):
    """Whether any value is a ROW of the machine's book."""
    if not isinstance(value, tuple) or len(value) == 0 or not isinstance(value[0], str):
        return False
    if value[0] not in ROW_NUMBERS:
        return False
    kinds = ROW_NUMBERS[value[0]]
    if len(value) != len(kinds) + 1:
        return False
    return all([_is_row_number(machine, kind, number) for kind, number in zip(kinds, value[1:])])


def _is_row_number(machine, kind, value):
    if kind == "power":
        return is_power(value)
    return is_within(value, 0, len(machine.rows) - 1)


def check_row(machine, row):
    """NoMachine for the machine, then BadRow for the row."""
    check_machine(machine)
    if not is_row(machine, row):
        raise BadRow(row)


def row_word(machine, row):
    """The row's word."""
    check_row(machine, row)
    return told_word(machine, row)


def worth(machine, row):
    """How many rows with 1 for each power the row is worth."""
    check_row(machine, row)
    return _row_worth(row)


def book(machine):
    """The tuple of the words of all rows with 1 for each power."""
    check_machine(machine)
    of_hands, of_k = [], [("kt", 1)]
    for number in range(len(machine.rows)):
        of_hands.extend([("x", number, 1), ("y", number, 1), ("t", number, 1)])
        of_k.append(("kh", number))
    return tuple([told_word(machine, row) for row in [("xy", 1, 1)] + of_hands + of_k])


def _row_worth(row):
    total = 1
    for kind, number in zip(ROW_NUMBERS[row[0]], row[1:]):
        if kind == "power":
            total = total * abs(number)
    return total


def turn_word(p, q):
    """The word of ("xy", p, q)."""
    return (("x", p), ("y", q), ("x", -p), ("y", -q))


def told_word(machine, row):
    """The row's word, the values being checked."""
    if row[0] == "xy":
        return turn_word(row[1], row[2])
    if row[0] == "kt":
        return _led_back("k", (("t", row[1]),), (("t", row[1]),))
    hand = f"h{row[1]}"
    if row[0] == "kh":
        return _led_back("k", ((hand, 1),), ((hand, 1),))
    between, instead = _gone_by(machine.figures, machine.rows[row[1]], row[0], row[2])
    return _led_back(hand, between, instead)


def _led_back(letter, between, instead):
    """The word of a row that tells what is instead of the word between the letter, undone, and itself."""
    return ((letter, -1),) + between + ((letter, 1),) + undo_word(instead)


def _gone_by(figures, machine_row, letter, power):
    """What goes by the hand of the machine's row, and what it becomes then."""
    one, other, put, side = machine_row
    if letter == "t":
        pair = (put, 0) if side == "right" else (0, put)
        return (move_t((one, other), power), move_t(pair, power))
    # As in PAIRS: on one side M times something becomes M * M times it, on the other one just it.
    grows = letter == ("x" if side == "right" else "y")
    instead = figures * figures * power if grows else power
    return (((letter, figures * power),), ((letter, instead),))


def exchanged(machine, word, exchange):
    """What comes of the word by the EXCHANGE, freed."""
    check_word(machine, word)
    left = free_word(word)
    check_exchange(machine, left, exchange)
    return put_in(machine, left, exchange)


def check_exchange(machine, word, exchange):
    """BadExchange unless it is one for the freed word."""
    if not _is_exchange(machine, word, exchange):
        raise BadExchange(exchange)


def _is_exchange(machine, word, value):
    if not isinstance(value, tuple) or len(value) != 4:
        return False
    at, cut, row, sign = value
    if not is_within(at, 0, len(word)) or not _may_be_cut(word[at:], cut):
        return False
    return is_row(machine, row) and is_sign(sign)


def _may_be_cut(rest, cut):
    """Whether the rest of a word can be cut so far behind its beginning, any value being cut."""
    if not is_integer(cut):
        return False
    if cut == 0:
        return True
    if len(rest) == 0 or rest[0][0] not in GROUND_LETTERS:
        return False
    power = rest[0][1]
    return 0 < cut < power or power < cut < 0


def parted(word, at, cut):
    """What stands ahead of the place of an EXCHANGE, and what stands behind it."""
    if cut == 0:
        return (word[:at], word[at:])
    letter, power = word[at]
    return (word[:at] + ((letter, cut),), ((letter, power - cut),) + word[at + 1:])


def put_in(machine, word, exchange):
    """What comes of the freed word by the EXCHANGE, freed, the values being checked."""
    at, cut, row, sign = exchange
    ahead, rest = parted(word, at, cut)
    return free_word(ahead + _signed(told_word(machine, row), sign) + rest)


def _signed(word, sign):
    return word if sign == 1 else undo_word(word)


def are_moved_rows(value, is_mover, is_row_here):
    """Whether any value is a tuple of (mover, row, sign); two functions tell which movers and rows are meant."""
    if not isinstance(value, tuple):
        return False
    return all([_is_moved_row(part, is_mover, is_row_here) for part in value])


def _is_moved_row(value, is_mover, is_row_here):
    if not isinstance(value, tuple) or len(value) != 3:
        return False
    mover, row, sign = value
    return is_mover(mover) and is_row_here(row) and is_sign(sign)


def moved_rows_word(product, word_of):
    """The freed word of a PRODUCT, the values being checked; word_of is a function that tells a row's word."""
    kept = []
    for mover, row, sign in product:
        put_word(kept, mover)
        put_word(kept, _signed(word_of(row), sign))
        put_word(kept, undo_word(mover))
    return tuple(kept)


def _is_product(machine, value):
    return are_moved_rows(value, lambda mover: is_word(machine, mover), lambda row: is_row(machine, row))


def check_product(machine, product):
    """NoMachine for the machine, then BadProduct for the product."""
    check_machine(machine)
    if not _is_product(machine, product):
        raise BadProduct(product)


def product_word(machine, product):
    """The PRODUCT's word, freed."""
    check_product(machine, product)
    return moved_rows_word(product, lambda row: told_word(machine, row))


def is_product(machine, word, value):
    """Whether any value is a PRODUCT for the word."""
    check_word(machine, word)
    return _is_product(machine, value) and product_word(machine, value) == free_word(word)


def singles(machine, product):
    """The sum of the worths of the PRODUCT's rows."""
    check_product(machine, product)
    return sum([_row_worth(row) for _, row, _ in product])


def product_of(machine, word, exchanges):
    """The PRODUCT for the word that these EXCHANGES, one behind another, make empty."""
    check_word(machine, word)
    if not isinstance(exchanges, tuple):
        raise BadExchange(exchanges)
    left, product = free_word(word), []
    for exchange in exchanges:
        check_exchange(machine, left, exchange)
        at, cut, row, sign = exchange
        product.append((parted(left, at, cut)[0], row, -sign))
        left = put_in(machine, left, exchange)
    if left:
        raise NotEmpty(left)
    return tuple(product)


class Scroll:
    """A PRODUCT in the making: what was put so far is, letter by letter, the word of parts with ahead behind it."""

    def __init__(self, machine):
        self.machine = machine
        self.parts = []
        self.ahead = []

    def put(self, word):
        """Put the word behind; its powers may be 0."""
        put_word(self.ahead, word)

    def turn(self, row, sign):
        """Write the row down, moved by ahead, and put its word behind ahead with the other sign."""
        self.parts.append((tuple(self.ahead), row, sign))
        self.put(_signed(told_word(self.machine, row), -sign))
