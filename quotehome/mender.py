"""Mending: moving the fewest rules of a writer to an asker such that both follow."""

from quotehome.chains import written_rules
from quotehome.errors import InvalidChain, TooMany
from quotehome.judging import first_miss
from quotehome.rules import rule_text

MOST_OF_WRITER = 6
MOST_OF_BOTH = 8


def check_rules(writer, asker):
    """Raises InvalidChain or TooMany if the rules of two chains cannot be moved."""
    if writer.bare() != asker.bare() or not writer.keep or not asker.keep:
        raise InvalidChain("unlike", None)
    many = len(written_rules(writer))
    if many > MOST_OF_WRITER:
        raise TooMany(MOST_OF_WRITER)
    if many + len(written_rules(asker)) > MOST_OF_BOTH:
        raise TooMany(MOST_OF_BOTH)


def with_written(chain, rules):
    """The chain of the word steps of another one with rules as they are written."""
    texts = [rule_text(rule) for rule in rules]
    return chain.with_rules(*texts)


def moved_chains(writer, asker, numbers):
    """The writer and the asker behind the moves of the rules with these numbers."""
    rules = written_rules(writer)
    kept = [rule for number, rule in enumerate(rules) if number not in numbers]
    more = list(written_rules(asker))
    for number in numbers:
        if rules[number] not in more:
            more.append(rules[number])
    return (with_written(writer, kept), with_written(asker, more))


def choices(many):
    """The list of the ascending tuples of some of so many numbers, the shorter ones first, else as tuples compare."""
    found = [()]
    last = [()]
    for _ in range(many):
        last = [
            chosen + (number,) for chosen in last for number in range(many) if number > max(chosen, default=-1)]
        found = found + last
    return found


def mend(writer, asker):
    """The numbers of the moved rules, the chains behind the moves, and a miss for each tuple of fewer numbers."""
    check_rules(writer, asker)
    misses = {}
    moved = ()
    # The last choice is to move all rules, and a writer without rules and an asker with its word steps follow.
    for chosen in choices(len(written_rules(writer))):
        moved = chosen
        without, asking = moved_chains(writer, asker, chosen)
        miss = first_miss(without, asking)
        if miss is None:
            break
        misses[chosen] = miss
    without, asking = moved_chains(writer, asker, moved)
    return (moved, without, asking, {chosen: misses[chosen] for chosen in sorted(misses) if len(chosen) < len(moved)})
