"""Drafts: how a loom is threaded, tied and trodden, and the cloth that comes of it."""

from heddle.cloth import MOST_STRANDS, end_signs, measured
from heddle.errors import NoDraft

MOST_SHAFTS = 40


class Draft:
    """A threading, ties and a treading that fit one another."""

    def __init__(self, threading, ties, treading):
        check_setting(threading, ties)
        check_treading(treading, len(ties))
        self.threading = list(threading)
        self.ties = [list(tie) for tie in ties]
        self.treading = list(treading)


def woven(draft):
    """Tell the cloth that a draft weaves."""
    return [shed_over(draft.threading, draft.ties[treadle]) for treadle in draft.treading]


def least_draft(cloth):
    """Tell the draft with the fewest shafts and treadles that weaves the cloth."""
    size = measured(cloth)
    ends = [end_signs(cloth, end) for end in range(size[0])]
    unlike_ends = unlike(ends)
    unlike_picks = unlike(cloth)
    threading = [unlike_ends.index(signs) for signs in ends]
    treading = [unlike_picks.index(text) for text in cloth]
    return Draft(threading, [shafts_over(threading, text) for text in unlike_picks], treading)


def check_setting(threading, ties):
    """Refuse a threading and ties with which no loom can be set."""
    check_count(len(threading))
    check_count(len(ties))
    for shaft in threading:
        check_shaft(shaft)
    for tie in ties:
        check_tie(tie)


def check_count(count):
    """Refuse a count of ends, treadles or picks that no draft has."""
    if count < 1 or count > MOST_STRANDS:
        raise NoDraft("a draft has 1 to 40 ends, 1 to 40 treadles and 1 to 40 picks")


def check_shaft(shaft):
    """Refuse a number that is no shaft's."""
    if shaft < 0 or shaft >= MOST_SHAFTS:
        raise NoDraft("a shaft is not from 0 to 39")


def check_tie(tie):
    """Refuse a list that is no rising list of shafts."""
    for k in range(len(tie)):
        check_shaft(tie[k])
        if k > 0 and tie[k] <= tie[k - 1]:
            raise NoDraft("the shafts of a tie do not rise")


def check_treading(treading, treadles):
    """Refuse a treading for a loom that has so many treadles."""
    check_count(len(treading))
    for treadle in treading:
        if treadle < 0 or treadle >= treadles:
            raise NoDraft("a trodden treadle has no tie")


def shed_over(threading, lifted):
    """Tell the signs of a pick that is thrown while these shafts are lifted."""
    return "".join(["#" if shaft in lifted else "." for shaft in threading])


def shafts_over(threading, text):
    """Tell the rising list of the shafts whose ends lie over a pick with these signs."""
    return sorted(set([shaft for shaft, sign in zip(threading, text) if sign == "#"]))


def unlike(things):
    """Tell the things that are different from all before them, in the order in which they come."""
    found = []
    for thing in things:
        if thing not in found:
            found.append(thing)
    return found
