"""A bench: a word is changed by hands, row by row, and taken back."""

from emptywords.books import check_exchange, parted, put_in
from emptywords.errors import NoBlock, NothingToRedo, NothingToUndo
from emptywords.pairs import Machine
from emptywords.top import verdict
from emptywords.words import check_word, free_word

# What a bench is like of which no deed stands, as an entry of its past.
UNBEGUN = (None, (), (), None)


class Trial:
    """What runs within tried; kept is None until keep is called in it."""

    def __init__(self):
        self.kept = None


class Bench:
    """A word of the Machine with this text, and the deeds by which it came to be what it is.

    past and future are the lists of deeds that stand, and that were taken back, each as (what was called with,
    beginning, word, part of the product); parts are those of the exchanges since the word was begun.
    """

    def __init__(self, text):
        self.machine = Machine(text)
        self.beginning = ()
        self.word = ()
        self.deeds = 0
        self.past = []
        self.future = []
        self.parts = []
        self.trial = None

    def __len__(self):
        return len(self.parts)

    def __eq__(self, other):
        return isinstance(other, Bench) and self.machine == other.machine and self.told() == other.told()

    def told(self):
        """The deeds that stand: ("begin", word) or ("exchange", at, cut, row, sign), as they were called with."""
        return [entry[0] for entry in self.past]

    def begin(self, word):
        """Begin with the word."""
        check_word(self.machine, word)
        left = free_word(word)
        self.future = []
        self._let_stand((("begin", word), left, left, None))

    def exchange(self, at, cut, row, sign):
        """Put the row's word in."""
        exchange = (at, cut, row, sign)
        check_exchange(self.machine, self.word, exchange)
        mover = parted(self.word, at, cut)[0]
        left = put_in(self.machine, self.word, exchange)
        self.future = []
        self._let_stand((("exchange",) + exchange, self.beginning, left, (mover, row, sign)))

    def _let_stand(self, entry):
        _, self.beginning, self.word, part = entry
        self.past.append(entry)
        self.deeds = len(self.past)
        if part is None:
            self.parts = []
        else:
            self.parts.append(part)

    def product(self):
        """The PRODUCT of what was done since the word was begun."""
        return tuple(reversed(self.parts))

    def verdict(self, most):
        """The verdict of the word."""
        return verdict(self.machine, self.word, most)

    def undo(self):
        """Take the last deed back that stands."""
        if not self.past:
            raise NothingToUndo(None)
        entry = self.past.pop()
        self.future.append(entry)
        self.deeds = len(self.past)
        _, self.beginning, self.word, _ = self.past[-1] if self.past else UNBEGUN
        if entry[3] is None:
            self.parts = _parts_since_begun(self.past)
        else:
            self.parts.pop()

    def redo(self):
        """Do the deed again that was taken back last."""
        if not self.future:
            raise NothingToRedo(None)
        self._let_stand(self.future.pop())

    def tried(self, look, *, keep=False):
        """What look returns of the bench, which is behind it as it was ahead of it, unless this is to be kept."""
        outer, trial, ended = self.trial, Trial(), None
        past, future, parts = list(self.past), list(self.future), list(self.parts)
        beginning, word, deeds = self.beginning, self.word, self.deeds
        self.trial = trial
        try:
            told = look(self)
            if keep is True:
                trial.kept = True
            ended = True
        finally:
            self.trial = outer
            if ended is None or trial.kept is None:
                self.past, self.future, self.parts = past, future, parts
                self.beginning, self.word, self.deeds = beginning, word, deeds
        return told

    def keep(self):
        """Let the innermost trial stay, if no error comes of it."""
        if self.trial is None:
            raise NoBlock(None)
        self.trial.kept = True

    def copy(self):
        """An independent bench, alike in all things, outside of all trials."""
        other = Bench(self.machine.text)
        other.past, other.future, other.parts = list(self.past), list(self.future), list(self.parts)
        other.beginning, other.word, other.deeds = self.beginning, self.word, self.deeds
        return other


def _parts_since_begun(entries):
    parts = []
    for _, _, _, part in entries:
        if part is None:
            parts = []
        else:
            parts.append(part)
    return parts
