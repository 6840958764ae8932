"""All errors of the package: WordError, and directly below it all others."""


class WordError(ValueError):
    """The base of all errors of the package; value is the only argument, as it was handed in."""

    def __init__(self, value):
        self.value = value


class BadMost(WordError):
    """The number of steps is no integer from 1 to 400."""


class BadPair(WordError):
    """The value is no tuple of two integers."""


class BadStrip(WordError):
    """The text is no strip's; value is the number of the line, 0 for what is no string."""


class NoStrip(WordError):
    """The value is no Strip."""


class BadStanding(WordError):
    """The value is no STANDING of the strip."""


class BadMachine(WordError):
    """The text is no machine's; value is the number of the line, 0 for what is no string."""


class NoMachine(WordError):
    """The value is no Machine."""


class BadWord(WordError):
    """The value is no WORD."""


class BadPower(WordError):
    """The value is no power: any integer but 0."""


class BadText(WordError):
    """The text is no word's; value is the number of the word in it, 0 for what is no string."""


class HasHands(WordError):
    """The word has a hand or k; value is the number of its first one."""


class HasK(WordError):
    """The word has a k; value is the number of its first one."""


class BadForm(WordError):
    """The value is no FORM."""


class BadRow(WordError):
    """The value is no ROW of the book."""


class BadExchange(WordError):
    """The value is no EXCHANGE of the word."""


class BadProduct(WordError):
    """The value is no PRODUCT."""


class NotEmpty(WordError):
    """The exchanges leave something; value is the word that is left."""


class BadHand(WordError):
    """The value is not the number of a row of the machine."""


class BadWay(WordError):
    """The value is neither 1 nor -1."""


class IsPassed(WordError):
    """The hand passes the form, so that nothing is lacking."""


class BadTower(WordError):
    """The value is no TOWER of the machine."""


class NotEnded(WordError):
    """The run does not end, or the runs do not meet; value is what is told of them."""


class NoRun(WordError):
    """No run has these hands; value is the number of the hand that it fails at."""


class BadChain(WordError):
    """The value is no CHAIN of the strip."""


class NothingToUndo(WordError):
    """No deed stands that could be taken back."""


class NothingToRedo(WordError):
    """No deed was taken back that could be done again."""


class NoBlock(WordError):
    """keep was called outside of all trials."""


class BadJournal(WordError):
    """The text is no journal; value is the number of the line, 0 for what is no string."""


class BadTask(WordError):
    """The value is no line that a desk takes."""
