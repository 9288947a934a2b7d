"""Reading the steps of a chain from the lines of its text."""

from quotehome.errors import InvalidLine
from quotehome.rules import LEAST_SIDES, MOST_SIDES, MOST_SIDE_WORDS, Same
from quotehome.steps import MOST_KEPT, Drop, Stem, Stop, Swap, is_ending
from quotehome.words import is_word

WORD_KINDS = ("stop", "drop", "swap", "stem")
RULE_KINDS = ("same", "first")


def stands_behind(kind, kinds, most):
    """Whether a line of any kind can stand behind lines of these kinds, in a chain of at most so many steps."""
    if kind not in WORD_KINDS and kind not in RULE_KINDS:
        return False
    if len(kinds) > 0 and kinds[-1] in RULE_KINDS:
        return kind == kinds[-1] and kinds.count(kind) < Same.MOST
    if kind == "stem" and "stem" in kinds:
        return False
    return len(kinds) < most


def wrong_in_words(parts, start, most):
    """The index of the first wrong part, if there are words from start on, 1 to most; None if none is wrong."""
    for index in range(start, len(parts)):
        if index == start + most or not is_word(parts[index]):
            return index
    return len(parts) if len(parts) == start else None


def wrong_in_swap(parts):
    """The index of the first wrong part of a swap line; None if none is wrong."""
    firsts = []
    for index in range(1, len(parts)):
        part = parts[index]
        if not is_word(part):
            return index
        if index % 2 == 1:
            if part in firsts or len(firsts) == Swap.MOST:
                return index
            firsts.append(part)
    return len(parts) if len(parts) == 1 or len(parts) % 2 == 0 else None


def wrong_in_stem(parts):
    """The index of the first wrong part of a stem line; None if none is wrong."""
    behind = parts.index("-") if "-" in parts else len(parts)
    for index in range(1, behind):
        if index > Stem.MOST or not is_ending(parts[index]):
            return index
    if behind == 1:
        return 1
    return None if behind == len(parts) else wrong_in_words(parts, behind + 1, MOST_KEPT)


def wrong_in_rule(parts):
    """The index of the first wrong part of a line with a rule; None if none is wrong."""
    sides = 1
    words = 0
    for index in range(1, len(parts)):
        if parts[index] == "=":
            if words == 0 or sides == MOST_SIDES:
                return index
            sides += 1
            words = 0
        else:
            if words == MOST_SIDE_WORDS or not is_word(parts[index]):
                return index
            words += 1
    return len(parts) if words == 0 or sides < LEAST_SIDES else None


def wrong_part(parts):
    """The index of the first wrong part of a line whose kind may stand; None if none is wrong."""
    kind = parts[0]
    if kind in RULE_KINDS:
        return wrong_in_rule(parts)
    if kind == "swap":
        return wrong_in_swap(parts)
    if kind == "stem":
        return wrong_in_stem(parts)
    return wrong_in_words(parts, 1, Stop.MOST)


def checked_lines(text, most):
    """The lines of any value as lists of parts; raises InvalidLine."""
    if not isinstance(text, str):
        raise InvalidLine(0, 0)
    if text == "":
        return []
    lines = [line.split(" ") for line in text.split("\n")]
    kinds = []
    for number, parts in enumerate(lines):
        if not stands_behind(parts[0], kinds, most):
            raise InvalidLine(number, 0)
        wrong = wrong_part(parts)
        if wrong is not None:
            raise InvalidLine(number, wrong)
        kinds.append(parts[0])
    return lines


def word_step(parts):
    """The word step that a line writes."""
    kind = parts[0]
    words = parts[1:]
    if kind == "stop":
        return Stop(*words)
    if kind == "drop":
        return Drop(*words)
    if kind == "swap":
        return Swap.of({words[index]: words[index + 1] for index in range(0, len(words), 2)})
    behind = words.index("-") if "-" in words else len(words)
    endings = words[:behind]
    kept = words[behind + 1:]
    return Stem(*endings, keep=kept)


def steps_of(text, most):
    """The list of the steps that any value writes as the text of a chain; raises InvalidLine."""
    lines = checked_lines(text, most)
    steps = [word_step(parts) for parts in lines if parts[0] in WORD_KINDS]
    rules = [" ".join(parts[1:]) for parts in lines if parts[0] in RULE_KINDS]
    if len(rules) > 0:
        keep = lines[-1][0] == "same"
        steps.append(Same(*rules, keep=keep))
    return steps
