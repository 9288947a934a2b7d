"""Judging: whether all quotes are found that begin at a beginning of a writer."""

from quotehome.begun import beginnings
from quotehome.editions import Edition
from quotehome.errors import TooMany
from quotehome.searches import miss_of
from quotehome.verdicts import Verdict

MOST_ENTRIES = 24


def many_entries(chain):
    """The number of the entries of the rules of a chain."""
    return sum([len(side) for rule in chain.rules for side in rule])


def check_size(writer, asker):
    """Raises TooMany if two chains have too many entries to be judged."""
    if many_entries(writer) + many_entries(asker) > MOST_ENTRIES:
        raise TooMany(MOST_ENTRIES)


def judge(writer, asker):
    """The verdict on two chains."""
    check_size(writer, asker)
    edition = Edition(writer, asker)
    safe = {}
    misses = {}
    starts = beginnings(writer)
    for begun in starts:
        miss = miss_of(edition, begun, safe)
        if miss is not None:
            misses[begun] = miss
    rows = sorted([shape + (live,) for shape, lives in safe.items() for live in lives])
    return Verdict(writer, asker, tuple([begun for begun in starts if begun not in misses]), misses, tuple(rows))


def first_miss(writer, asker):
    """The miss that the verdict on two chains has for the least beginning that is not safe; None if they follow."""
    check_size(writer, asker)
    edition = Edition(writer, asker)
    safe = {}
    for begun in beginnings(writer):
        miss = miss_of(edition, begun, safe)
        if miss is not None:
            return miss
    return None
