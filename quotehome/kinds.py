"""Kinds: words that two chains treat alike."""

from quotehome.steps import Stem, Stop, Swap
from quotehome.words import HOLE, ascending, is_word

LETTERS = "abcdefghijklmnopqrstuvwxyz"
# Stands for all words that are entries of no side; it is no word itself.
OTHER = ""


def side_words(writer, asker):
    """The dict with the words that are entries of sides in two chains."""
    return {**writer.sided, **asker.sided}


def sort_of(result, sided):
    """A result itself, or OTHER if it is a word that is an entry of no side."""
    return result if result is None or result == HOLE or result in sided else OTHER


def kind_of(writer, asker, sided, word):
    """What two words have in common exactly if they are of one kind."""
    written = writer.turning.result(word)
    asked = asker.turning.result(word)
    return (sort_of(written, sided), sort_of(asked, sided), written == asked)


def like(writer, asker, one, other):
    """Whether two words are of one kind."""
    # These raise the errors of wrong values.
    writer.result(one)
    writer.result(other)
    sided = side_words(writer, asker)
    return kind_of(writer, asker, sided, one) == kind_of(writer, asker, sided, other)


def step_words(step):
    """The list of the words with which a step compares, or into which it turns others."""
    if isinstance(step, Stop):
        return list(step.words)
    if isinstance(step, Swap):
        return [word for pair in step.pairs for word in pair]
    return list(step.keep) if isinstance(step, Stem) else []


def endings_of(chain):
    """The endings that a chain takes off."""
    return () if chain.turning.stem is None else chain.turning.stem.endings


def ended_words(chain, sided):
    """The list of the words of which the stem of a chain may leave one that a later step changes or a side has."""
    left = list({**sided, **chain.turning.behind})
    return [word + ending for ending in endings_of(chain) for word in left]


def rarest_letter(words, start):
    """The first letter with which, behind some first letters, the fewest of the words go on."""
    counts = {letter: 0 for letter in LETTERS}
    for word in words:
        if word.startswith(start) and len(word) > len(start):
            counts[word[len(start)]] += 1
    return min([(many, letter) for letter, many in counts.items()])[1]


def fresh_start(words):
    """Some letters with which none of the words begins."""
    start = rarest_letter(words, "")
    while any([word.startswith(start) for word in words]):
        start = start + rarest_letter(words, start)
    return start


def fresh_letter(endings, tail):
    """A letter such that none of the endings ends with it and a tail behind it."""
    # There are fewer endings than letters.
    return [letter for letter in LETTERS if not any([ending.endswith(letter + tail) for ending in endings])][0]


def fresh_words(words, ones, others):
    """Words such that neither they nor what two chains with these endings leave of them is one of the words.

    Nothing is taken off the first one. Off each other one the chains take unlike endings; there is one if they can.
    """
    # Two chains have too few words for a start of more than two letters, and a stem leaves two.
    start = fresh_start(words)
    fresh = [start + fresh_letter(ones + others, "")]
    fresh = fresh + [start + fresh_letter(ones, ending) + ending for ending in ones if ending not in others]
    return fresh + [start + fresh_letter(others, ending) + ending for ending in others if ending not in ones]


def telling_words(writer, asker, sided):
    """An ascending tuple of words, at least one of each kind."""
    # If a word stands in no step and is of another kind than the fresh ones, a stem leaves of it a word that a later
    # step compares or that is an entry, or the word is such an entry itself.
    words = list(sided) + [word for chain in [writer, asker] for step in chain.steps for word in step_words(step)]
    ended = ended_words(writer, sided) + ended_words(asker, sided)
    fresh = fresh_words(words, endings_of(writer), endings_of(asker))
    return ascending(words + [word for word in ended + fresh if is_word(word)])


def first_of_kinds(writer, asker):
    """The dict from what the words of each kind have in common to the one that stands for them."""
    sided = side_words(writer, asker)
    first = {}
    for word in telling_words(writer, asker, sided):
        first.setdefault(kind_of(writer, asker, sided, word), word)
    return first


def kinds(writer, asker):
    """An ascending tuple with one word of each kind."""
    return ascending(list(first_of_kinds(writer, asker).values()))
