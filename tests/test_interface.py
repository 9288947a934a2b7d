"""The names, files, arguments and methods that the document's interface lists."""

import importlib
import inspect
import unittest

FUNCTIONS = {
    "words": {"is_word": "(value)", "words_of": "(text)", "text_of": "(words)"},
    "charts": {"chart": "(graph)"},
    "phrases": {"hit_places": "(asked, written)"},
    "rewordings": {"rewordings": "(chain, quote)"},
    "home": {
        "asks": "(asker, text, first, last)", "found": "(writer, asker, text, first, last)",
        "home_places": "(writer, asker, text, first, last)", "missed": "(writer, asker, text)",
    },
    "exact": {"lies": "(asked, written)", "found_exactly": "(writer, asker, text, first, last)"},
    "kinds": {"kinds": "(writer, asker)", "like": "(writer, asker, one, other)"},
    "begun": {"beginnings": "(chain)", "begun": "(chain, text, first)"},
    "rows": {
        "first_row": "(writer, asker, begun)", "read_row": "(writer, asker, row, word)",
        "end_row": "(writer, asker, row)", "last_row": "(writer, asker, row)",
        "row_of": "(writer, asker, text, first, last=None)",
    },
    "judging": {"judge": "(writer, asker)"},
    "looks": {"shows_safe": "(writer, asker, begun, rows)", "shows_missed": "(writer, asker, begun, miss)"},
    "ghosts": {"ghosts": "(graph)", "ghost_of": "(chain)"},
    "mender": {"mend": "(writer, asker)"},
    "starts": {"snap": "(writer, asker, text, first)"},
    "reports": {"report": "(verdict)", "shelf_report": "(shelf)"},
}
CLASSES = {
    "errors": {
        "QuoteError": None, "InvalidWord": "(value)", "InvalidText": "(index)", "InvalidStep": "(reason, index)",
        "InvalidChain": "(reason, index)", "InvalidLine": "(line, word)", "UnknownCommand": "(line)",
        "Missed": "(text, first, last)", "NoText": "(name)", "NoBeginning": "(begun)", "NoWord": "(index)",
        "NoBlock": "(index)", "TooMany": "(limit)", "NothingToUndo": "(count)",
    },
    "steps": {
        "Step": "()", "Stop": "(*words)", "Drop": "(*words)", "Swap": "(**pairs)", "Stem": "(*endings, keep=())",
    },
    "rules": {"Same": "(*rules, keep=True)"},
    "chains": {"Chain": "(*steps)"},
    "blocks": {"Block": None},
    "graphs": {"Graph": None},
    "books": {"Book": "(chain)"},
    "verdicts": {"Verdict": None},
    "shelves": {"Shelf": "(writer, asker)"},
    "desk": {"Desk": "()"},
}
STEP_METHODS = {"result": "(self, value)", "__eq__": "(self, other)", "__str__": "(self)", "__repr__": "(self)"}
METHODS = {
    "Step": STEP_METHODS, "Stop": STEP_METHODS, "Drop": STEP_METHODS, "Stem": STEP_METHODS, "Same": STEP_METHODS,
    "Swap": {**STEP_METHODS, "of": "(cls, pairs)"},
    "Chain": {
        "result": "(self, word)", "__call__": "(self, text)", "bare": "(self)", "read": "(cls, text)",
        "with_rules": "(self, *rules, keep=True)", "__or__": "(self, other)", "__len__": "(self)",
        "__eq__": "(self, other)", "__str__": "(self)", "__repr__": "(self)",
    },
    "Block": {"__eq__": "(self, other)"},
    "Graph": {
        "__len__": "(self)", "__getitem__": None, "__contains__": None, "__eq__": "(self, other)", "ways": "(self)",
    },
    "Book": {
        "add": "(self, name, text)", "remove": "(self, name)", "__getitem__": "(self, name)", "places": "(self, word)",
        "hits": "(self, graph)", "marks": "(self, name, graph, place)", "__len__": "(self)", "__contains__": None,
        "__eq__": "(self, other)",
    },
    "Verdict": {
        "is_safe": "(self, begun)", "starts": "(self, text)", "__eq__": "(self, other)", "__bool__": "(self)",
    },
    "Shelf": {
        "ask_by": "(self, asker)", "renew": "(self, writer, asker)", "add": "(self, name, text)",
        "remove": "(self, name)", "__getitem__": "(self, name)", "written_by": "(self, name)",
        "rewrite": "(self, *names)", "find": "(self, quote)", "trial": "(self)", "tried": "(self, deed)",
        "twin": "(self)", "__len__": "(self)", "__contains__": None, "__eq__": "(self, other)",
    },
    "Desk": {"say": "(self, line)", "undo": "(self, count=1)"},
}
# Properties, in the class itself.
PROPERTIES = {"Book": ["names"], "Shelf": ["writer", "asker", "names", "stale"]}
VALUES = {
    "Stop": {"MOST": 20}, "Stem": {"LEAST": 2}, "Same": {"MOST": 8}, "Chain": {"MOST": 6, "HOLE": "*"},
    "Book": {"MOST": 40}, "Shelf": {"MOST": 40},
}


def listed(table):
    for module, names in table.items():
        module = importlib.import_module("quotehome." + module)
        for name, signature in names.items():
            yield module, getattr(module, name), signature


def told(method):
    return str(inspect.signature(getattr(method, "__func__", method)))


class InterfaceTest(unittest.TestCase):
    def test_functions(self):
        for module, function, signature in listed(FUNCTIONS):
            self.assertTrue(inspect.isfunction(function))
            self.assertEqual(function.__module__, module.__name__)
            self.assertEqual(told(function), signature, function)

    def test_classes(self):
        for module, owner, signature in listed(CLASSES):
            self.assertTrue(inspect.isclass(owner))
            self.assertEqual(owner.__module__, module.__name__)
            if signature is not None:
                self.assertEqual(told(owner), signature, owner)

    def test_methods_stand_in_the_class_itself(self):
        for _, owner, _ in listed(CLASSES):
            for name, signature in METHODS.get(owner.__name__, {}).items():
                self.assertIn(name, vars(owner))
                if signature is not None:
                    self.assertEqual(told(vars(owner)[name]), signature, (owner, name))

    def test_properties(self):
        for _, owner, _ in listed(CLASSES):
            for name in PROPERTIES.get(owner.__name__, []):
                self.assertIsInstance(vars(owner)[name], property)

    def test_class_values(self):
        for _, owner, _ in listed(CLASSES):
            for name, value in VALUES.get(owner.__name__, {}).items():
                self.assertEqual(vars(owner)[name], value)


if __name__ == "__main__":
    unittest.main()
