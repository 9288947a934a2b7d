"""Parts: what a chain makes of the next few words, before they have a place in a text.

A part is a tuple (many, width, sides, is_own, others): the number of its words, its width, its sides, whether the
first one of these is the own side, and a dict from each entry of the other ones to the tuple of its indexes in them.
"""

from quotehome.rules import each_once

# A word that becomes nothing.
NOTHING = (1, 0, (), False, ())


def sides_beside(met, rules, keep):
    """The sides of a block that meets a side; that side stands first, if it is among them."""
    having = [rule for rule in rules if met in rule]
    sides = [side for rule in having for side in rule] if keep else [rule[0] for rule in having]
    return each_once([met] + sides) if met in sides else each_once(sides)


def indexes_of(sides):
    """The dict from each entry of sides to the tuple of its indexes in them, each once."""
    found = {}
    for side in sides:
        for index, entry in enumerate(side):
            if entry not in found:
                found[entry] = {}
            found[entry][index] = True
    return {word: tuple(indexes) for word, indexes in found.items()}


def met_part(met, rules, keep):
    """The part that meets a side."""
    sides = sides_beside(met, rules, keep)
    is_own = sides[0] == met
    others = indexes_of(sides[1:] if is_own else sides)
    return (len(met), max([len(side) for side in sides]), sides, is_own, others)


def meetings_of(rules, keep):
    """The dict from each first entry of sides to the list of the pairs (side, part), the longest sides first."""
    found = {}
    for met in each_once([side for rule in rules for side in rule]):
        found.setdefault(met[0], []).append((met, met_part(met, rules, keep)))
    return {entry: sorted(pairs, key=lambda pair: -len(pair[0])) for entry, pairs in found.items()}


def begins_of(rules):
    """The dict with the beginnings of a chain with these rules."""
    begins = {(): True}
    for rule in rules:
        for side in rule:
            for many in range(1, len(side)):
                begins[side[:many]] = True
    return begins


def part_at(meetings, results, first, stop):
    """The part at a word of a row of words with these results, of which those from stop on are not there."""
    entry = results[first]
    for side, part in meetings.get(entry, ()):
        behind = first + part[0]
        if behind <= stop and results[first:behind] == side:
            return part
    return NOTHING if entry is None else (1, 1, ((entry,),), True, ())


def is_waiting(begins, results, first, stop):
    """Whether the words from one on, ahead of another one, may go on to become another part if more words follow."""
    # A beginning has at most three entries.
    return stop - first < 4 and results[first:stop] in begins
