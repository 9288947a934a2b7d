"""Walks along the blocks of an asked graph, whose sides stand at places of another graph."""


def footing(homes):
    """The length of a side and the places at which it stands, a list or a dict, None for anywhere.

    For each of its entries homes has the places at which it may stand, a list or a dict, or None for a hole.
    """
    if homes[0] is None:
        # No side of a rule begins with a hole, so this one is nothing else.
        return (1, None)
    if len(homes) == 1:
        return (1, homes[0])
    rest = [(index, homes[index]) for index in range(1, len(homes)) if homes[index] is not None]
    return (len(homes), [place for place in homes[0] if all([place + index in there for index, there in rest])])


def is_worded(footings):
    """Whether these are the footings of a block whose sides have words: one that is neither a hole nor nothing."""
    return len(footings) > 0 and footings[0][1] is not None


def shifted(live, footings, step):
    """The live places across a block without words, which are one step away if it is a hole."""
    if live is None or len(footings) == 0:
        return live
    return {place + step: True for place in live}


def onward(live, footings):
    """The dict of the live places behind a block; None stands for any place, as long as no word was asked."""
    if not is_worded(footings):
        return shifted(live, footings, 1)
    return {
        place + length: True for length, places in footings for place in places if live is None or place in live}


def backward(live, footings):
    """The dict of the places of a block that lead to a live place behind it; None stands for any place."""
    if not is_worded(footings):
        return shifted(live, footings, -1)
    return {
        place: True for length, places in footings for place in places if live is None or place + length in live}


def start_places(rows):
    """The ascending list of the places of the first words of the ways that stand; each row is a block's footings."""
    starts = {}
    live = None
    for footings in reversed(list(rows)):
        live = backward(live, footings)
        if is_worded(footings):
            starts = live
            if len(starts) == 0:
                return []
    return sorted(starts)
