"""Chains of steps of a strip, forth and back: all detours are needless."""

from emptywords.basics import first_steps
from emptywords.errors import BadChain
from emptywords.strips import check_standing, check_strip, fate, follows, is_standing, run


def _check_chain(strip, chain):
    """NoStrip for the strip, then BadChain for the chain."""
    check_strip(strip)
    if not _is_chain(strip, chain):
        raise BadChain(chain)


def _is_chain(strip, value):
    """Whether any value is a CHAIN of the strip."""
    if not isinstance(value, tuple) or len(value) == 0:
        return False
    if not all([is_standing(strip, part) for part in value]):
        return False
    return all([_are_neighbours(strip, one, other) for one, other in zip(value, value[1:])])


def _are_neighbours(strip, one, other):
    return follows(strip, one) == other or follows(strip, other) == one


def dents(strip, chain):
    """The numbers of the STANDINGS within the CHAIN that have the same one on both sides."""
    _check_chain(strip, chain)
    return tuple([at for at in range(1, len(chain) - 1) if chain[at - 1] == chain[at + 1]])


def straight(strip, chain):
    """The CHAIN without its dents, and those that come of taking them out."""
    _check_chain(strip, chain)
    kept = []
    for standing in chain:
        # The last one of these is a dent; it goes out, and so does this one.
        if len(kept) > 1 and kept[-2] == standing:
            kept.pop()
        else:
            kept.append(standing)
    return tuple(kept)


def joined(strip, one, other, most):
    """("meet", i, j), the least steps behind which both runs meet, ("apart",) or ("open",)."""
    # BadMost comes of run, behind all others.
    check_standing(strip, one)
    check_standing(strip, other)
    behind = first_steps(_steps_from(strip, other, most))
    for steps, standing in enumerate(_steps_from(strip, one, most)):
        if standing in behind:
            return ("meet", steps, behind[standing])
    if fate(strip, one, most)[0] == "on" or fate(strip, other, most)[0] == "on":
        return ("open",)
    return ("apart",)


def _steps_from(strip, standing, most):
    """The STANDINGS behind 0, 1, .. most steps, as far as there are such."""
    places = run(strip, standing, most)
    last = follows(strip, places[-1])
    # If the run stopped earlier, nothing follows its last one.
    return places if last is None else places + (last,)
