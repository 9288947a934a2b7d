"""Second, slow models, straight from the words of the document: ways one by one, places one by one.

Of the package they use chains and their graphs alone, which have a model of their own in test_graphs.
"""

import itertools
import random

from quotehome.chains import Chain
from quotehome.rules import Same
from quotehome.steps import Drop, Stem, Stop, Swap


def told_ways(graph, ahead=0):
    """All ways of a graph, each a list of (entry, first, last); the numbers count so many words ahead."""
    choices = []
    for block in graph:
        sides = []
        for number, side in enumerate(block.sides):
            spans = [
                (block.first + index,) * 2 if block.is_own and number == 0 else (block.first, block.last)
                for index in range(len(side))]
            sides.append([(entry, ahead + span[0], ahead + span[1]) for entry, span in zip(side, spans)])
        if sides:
            choices.append(sides)
    return [[entry for side in sides for entry in side] for sides in itertools.product(*choices)]


def hits(asked, written):
    """Pairs of a way and a place at which it stands: a dict from each hit place to the (place, word) of its words."""
    tokens = {(token[0], token[1]) for token in written.tokens}
    found = {}
    for way in asked.ways():
        words = [(index, entry) for index, entry in enumerate(way) if entry != "*"]
        for place in range(-len(way), written.width + 1) if words else []:
            stood = {(place + index, entry) for index, entry in words}
            if stood <= tokens:
                found.setdefault(place + words[0][0], set()).update(stood)
    return found


def at_home(token, near, quote):
    return quote[0] <= token[2] and token[3] <= quote[1] and token[2] <= near[1] and near[0] <= token[3]


def homes(writer, asker, text, first, last):
    """The set of the hit places of the ways of a quote that are at home."""
    written = writer(text)
    found = set()
    for way in told_ways(asker(" ".join(text.split(" ")[first:last + 1])), first):
        words = [(index,) + entry for index, entry in enumerate(way) if entry[0] != "*"]
        for place in range(-len(way), written.width + 1) if words else []:
            if all(
                    any(
                        token[:2] == (place + index, entry) and at_home(token, near, (first, last))
                        for token in written.tokens)
                    for index, entry, *near in words):
                found.add(place + words[0][0])
    return found


def asks(asker, text, first, last):
    return any(asker.result(word) not in (None, "*") for word in text.split(" ")[first:last + 1])


def found(writer, asker, text, first, last):
    return not asks(asker, text, first, last) or bool(homes(writer, asker, text, first, last))


def missed(writer, asker, text):
    many = len(text.split(" ")) if text else 0
    return [
        (first, last) for first in range(many) for last in range(first, many)
        if not found(writer, asker, text, first, last)]


def begun(chain, words):
    """What is begun behind words."""
    behind = decided(chain, words)
    return tuple(chain.result(word) for word in words[behind[-1].last + 1 if behind else 0:])


def few_words(known, most, limit):
    """All texts of one word, two and so on over these words, as long as those of a length are not too many."""
    for many in range(1, most + 1):
        if len(known) ** many <= limit:
            for words in itertools.product(known, repeat=many):
                yield many, " ".join(words)


def least_misses(writer, asker, known, most, limit):
    """The dict from beginnings to the fewest words of a text with a missed quote, and the most words that were tried.

    Texts of more words than that were not looked at.
    """
    least, tried = {}, 0
    for many, text in few_words(known, most, limit):
        tried = many
        words = text.split(" ")
        for first, _ in missed(writer, asker, text):
            least.setdefault(begun(writer, words[:first]), many)
    return least, tried


def lies(asked_ways, written_ways, fits):
    """Whether an asked way lies in a written one; fits tells whether an entry may be the other one."""
    for way in asked_ways:
        words = [(index, entry) for index, entry in enumerate(way) if entry[0] != "*"]
        for other in written_ways if words else []:
            for shift in range(-len(way), len(other) + 1):
                if all(0 <= shift + index < len(other) and fits(entry, other[shift + index]) for index, entry in words):
                    return True
    return False


def found_exactly(writer, asker, text, first, last):
    if not asks(asker, text, first, last):
        return True
    asked = told_ways(asker(" ".join(text.split(" ")[first:last + 1])), first)
    return lies(
        asked, told_ways(writer(text)),
        lambda entry, other: entry[0] == other[0] and at_home((0,) + other, entry[1:], (first, last)))


def some_chain(dice, letters="abcdef", most_words=3, rules=3):
    """A chain with rules over few letters."""
    while True:
        dropping = dice.random() < 0.15
        steps = []
        if dice.random() < 0.4:
            steps.append(Drop("e") if dropping else Stop("e", "f"))
        if dice.random() < 0.3:
            steps.append(Swap.of({dice.choice(letters): dice.choice(letters)}))
        longest = 1 if dropping else most_words
        written = [
            " = ".join(
                " ".join(dice.choice(letters) for _ in range(dice.randint(1, longest)))
                for _ in range(dice.randint(2, 3)))
            for _ in range(dice.randint(0, rules))]
        try:
            return Chain(*steps, *([Same(*written, keep=dice.random() < 0.6)] if written else []))
        except ValueError:
            continue


def some_pair(dice, **more):
    """A writer and an asker, often equal ones or ones with the same word steps."""
    writer = some_chain(dice, **more)
    way = dice.random()
    if way < 0.3:
        return writer, writer
    if way < 0.5:
        return writer, writer.bare()
    if way < 0.6:
        return writer.bare(), writer
    return writer, some_chain(dice, **more)


def many_entries(chain):
    return sum(len(side) for rule in chain.rules for side in rule)


def small_pair(dice, **more):
    """A writer and an asker that can be judged."""
    while True:
        writer, asker = some_pair(dice, **more)
        if many_entries(writer) + many_entries(asker) <= 24:
            return writer, asker


def some_text(dice, most, letters="abcdefg"):
    return " ".join(dice.choice(letters) for _ in range(dice.randint(0, most)))


def sided(writer, asker):
    """The words that are entries of sides."""
    return {entry for chain in (writer, asker) for rule in chain.rules for side in rule for entry in side} - {"*"}


def like(writer, asker, one, other):
    """Whether two words are of one kind."""
    words = sided(writer, asker)
    for chain in (writer, asker):
        results = [chain.result(one), chain.result(other)]
        outside = all(result not in (None, "*") and result not in words for result in results)
        if results[0] != results[1] and not outside:
            return False
    return (writer.result(one) == asker.result(one)) == (writer.result(other) == asker.result(other))


def decided(chain, words):
    """The list of the blocks of words that are decided, though more words may follow."""
    starts = {side[:many] for rule in chain.rules for side in rule for many in range(1, len(side))}
    results = tuple(chain.result(word) for word in words)
    blocks = []
    for block in chain(" ".join(words)):
        if results[block.first:] in starts:
            return blocks
        blocks.append(block)
    return blocks


def standing(writer, asker, known, word, is_asked):
    """The word that stands for a word; known are those of the kinds."""
    words = sided(writer, asker)
    result = writer.result(word)
    for other in known:
        if is_asked:
            if like(writer, asker, word, other):
                return other
        elif writer.result(other) == result or all(
                value not in (None, "*") and value not in words for value in (result, writer.result(other))):
            return other
    raise AssertionError(word)


def row_of(writer, asker, text, first, last=None, known=(), is_over=False):
    """The row of a whole text, True or False; known are the words of the kinds."""
    words = text.split(" ") if text else []
    written = list(writer(text)) if is_over else decided(writer, words)
    behind = written[-1].last + 1 if written else 0
    if last is None:
        asked = decided(asker, words[first:])
    else:
        asked = list(asker(" ".join(words[first:last + 1])))
    settled = [block for block in asked if first + block.last < behind]
    at = first + settled[-1].last + 1 if settled else first
    tokens = [token for token in writer(text).tokens if token[3] < behind]
    quote = (first, len(words) if last is None else last)
    live, asks_words = set(), False
    for way in told_ways(settled, first):
        named = [(index,) + entry for index, entry in enumerate(way) if entry[0] != "*"]
        asks_words = asks_words or bool(named)
        for place in range(-len(way), 4 * len(words) + 1) if named else []:
            if all(
                    any(token[:2] == (place + index, entry) and at_home(token, near, quote) for token in tokens)
                    for index, entry, *near in named):
                live.add(place + len(way))
    if asks_words and not live:
        return False
    if last is not None and at == last + 1:
        return True
    holding = [block for block in written if block.first <= at <= block.last]
    base, place = behind, sum(block.width for block in written)
    if holding:
        base, place = holding[0].first, holding[0].place
    told = tuple(
        standing(writer, asker, known, words[number], quote[0] <= number <= quote[1])
        for number in range(base, len(words)))
    end = -1 if last is None else last + 1 - base
    return (told, max(0, first - base), at - base, end, tuple(sorted(spot - place for spot in live)))
