"""Commands: what the lines of a desk do, and which forms they have."""

from quotehome.chains import Chain
from quotehome.charts import chart
from quotehome.home import asks, found
from quotehome.judging import judge
from quotehome.reports import report
from quotehome.shelves import Shelf, found_pairs
from quotehome.words import is_word, text_of

MOST_DIGITS = 3
# The lines that can be taken back.
CHANGES = ("writer", "asker", "clear", "open", "renew", "add", "remove", "rewrite")
# The lines about a shelf.
SHELVED = ("renew", "add", "remove", "stale", "rewrite", "find")


def is_count(part):
    """Whether a part of a line is a number as it is written in one."""
    if not part.isascii() or not part.isdigit() or len(part) > MOST_DIGITS:
        return False
    return part == "0" or not part.startswith("0")


def fits_none(parts):
    """Whether nothing stands behind a command."""
    return len(parts) == 0


def fits_line(parts):
    """Whether these parts are one or more, whatever they are."""
    return len(parts) > 0


def fits_chain(parts):
    """Whether these parts tell one of the chains."""
    return parts == ["writer"] or parts == ["asker"]


def fits_words(parts):
    """Whether these parts are words, perhaps none."""
    return all([is_word(part) for part in parts])


def fits_text(parts):
    """Whether these parts are one or more words."""
    return len(parts) > 0 and fits_words(parts)


def fits_name(parts):
    """Whether these parts are one word."""
    return len(parts) == 1 and fits_words(parts)


def fits_named_text(parts):
    """Whether these parts are a name and a text."""
    return len(parts) > 1 and fits_words(parts)


def fits_quote(parts):
    """Whether these parts are two numbers and a text."""
    return len(parts) > 2 and is_count(parts[0]) and is_count(parts[1]) and fits_words(parts[2:])


def in_one_line(text):
    """A text of lines in one line."""
    return text.replace("\n", " | ") if text != "" else "-"


def with_line(chain, parts):
    """The chain whose text is that of another one with one more line."""
    line = " ".join(parts)
    text = str(chain)
    return Chain.read(line if text == "" else f"{text}\n{line}")


# Each of these carries out a line, of which it gets the parts behind the command, and tells what the desk answers.


def to_writer(desk, parts):
    writer, asker = desk.chains
    desk.chains = (with_line(writer, parts), asker)
    return "ok"


def to_asker(desk, parts):
    writer, asker = desk.chains
    desk.chains = (writer, with_line(asker, parts))
    return "ok"


def clear_chains(desk, _):
    desk.chains = (Chain(), Chain())
    return "ok"


def show_chain(desk, parts):
    return in_one_line(str(desk.writer if parts == ["writer"] else desk.asker))


def judge_chains(desk, _):
    return in_one_line(report(judge(desk.writer, desk.asker)))


def graph_text(desk, parts):
    writer = desk.writer
    return in_one_line(chart(writer(text_of(parts))))


def found_quote(desk, parts):
    first = int(parts[0])
    last = int(parts[1])
    text = text_of(parts[2:])
    if not asks(desk.asker, text, first, last):
        return "asks nothing"
    return "found" if found(desk.writer, desk.asker, text, first, last) else "missed"


def begin_shelf(desk, _):
    desk.shelf = Shelf(desk.writer, desk.asker)
    return "ok"


def renew_shelf(desk, _):
    desk.shelf.renew(desk.writer, desk.asker)
    return "ok"


def add_text(desk, parts):
    desk.shelf.add(parts[0], text_of(parts[1:]))
    return "ok"


def remove_text(desk, parts):
    desk.shelf.remove(parts[0])
    return "ok"


def stale_names(desk, _):
    return in_one_line(text_of(desk.shelf.stale))


def rewrite_texts(desk, parts):
    names = list(parts)
    return in_one_line(text_of(desk.shelf.rewrite(*names)))


def find_pairs(desk, parts):
    text = text_of(parts)
    return in_one_line(text_of([f"{name}:{place}" for name, place in found_pairs(desk.shelf, text)]))


def undo_line(desk, _):
    desk.undo()
    return "ok"


FORMS = {
    "writer": fits_line, "asker": fits_line, "clear": fits_none, "show": fits_chain, "judge": fits_none,
    "graph": fits_text, "found": fits_quote, "open": fits_none, "renew": fits_none, "add": fits_named_text,
    "remove": fits_name, "stale": fits_none, "rewrite": fits_words, "find": fits_text, "undo": fits_none,
}
ACTIONS = {
    "writer": to_writer, "asker": to_asker, "clear": clear_chains, "show": show_chain, "judge": judge_chains,
    "graph": graph_text, "found": found_quote, "open": begin_shelf, "renew": renew_shelf, "add": add_text,
    "remove": remove_text, "stale": stale_names, "rewrite": rewrite_texts, "find": find_pairs, "undo": undo_line,
}


def parts_of(line, has_shelf):
    """The list of the parts of any value that has the form of a line; None if it has not."""
    if not isinstance(line, str) or "\n" in line:
        return None
    parts = line.split(" ")
    if "" in parts or parts[0] not in FORMS or (parts[0] in SHELVED and not has_shelf):
        return None
    fits = FORMS[parts[0]]
    return parts if fits(parts[1:]) else None


def carry_out(desk, parts):
    """Does what the parts of a line tell, which has the form of one; what it answers."""
    action = ACTIONS[parts[0]]
    return action(desk, parts[1:])
