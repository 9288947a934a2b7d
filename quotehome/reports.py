"""Reports: verdicts and shelves as texts for the eye."""

from quotehome.words import words_of


def begun_told(begun):
    """A beginning as it is written in a report."""
    return "+".join(begun) if len(begun) > 0 else "-"


def miss_told(miss):
    """A miss as it is written in a report."""
    text, first, last = miss
    return f"missed {first} {last} {text}"


def report(verdict):
    """Whether two chains follow, and a line for each beginning."""
    misses = verdict.misses
    lines = [f"misses {len(misses)}" if len(misses) > 0 else "follows"]
    for begun in sorted(list(verdict.safe) + list(misses)):
        told = miss_told(misses[begun]) if begun in misses else "safe"
        lines.append(f"{begun_told(begun):<12} {told}")
    return "\n".join(lines)


def shelf_report(shelf):
    """A line for each text of a shelf: its name, the number of its words, and whether it is stale."""
    stale = shelf.stale
    lines = []
    for name in shelf.names:
        many = len(words_of(shelf[name]))
        told = "stale" if name in stale else "fresh"
        lines.append(f"{name:<10} {many:>4} {told}")
    return "\n".join(lines)
