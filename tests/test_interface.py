"""The whole interface: what is listed exists, where it is listed, and takes what is listed."""

import doctest
import importlib
import inspect
import re
import unittest
from pathlib import Path

from keptlikes.console import Console
from keptlikes.heaps import Heap
from keptlikes.live import LiveHeap
from keptlikes.samples import sample_heap

FUNCTIONS = {
    "ways": {"kept": "heap, way, order"},
    "samples": {"sample_heap": ""},
    "orders": {
        "outcomes": "heap, way", "is_free": "heap, way", "always_kept": "heap, way", "ever_kept": "heap, way",
        "sizes": "heap, way", "order_for": "heap, way, things", "two_orders": "heap, way",
    },
    "properties": {
        "holds_for": "heap, way, name, order", "always_holds": "heap, way, name", "fault": "heap, way, name",
        "failing": "heap, way",
    },
    "rounds": {"turned_by": "heap, way, thing", "parts_fault": "heap, way, part"},
    "everywhere": {
        "agree_always": "way, other_way, *, passing=False, unlike=False",
        "least_difference": "way, other_way, *, passing=False, unlike=False",
    },
    "told": {"told_near": "count, rows"},
    "reaches": {"free_reaches": "worths, places, way"},
    "live": {"within": "trial, act", "attempt": "live, act"},
    "checker": {"holds": "claim, paper"},
    "certificates": {
        "certify_kept": "heap, way, things", "certify_property": "heap, way, name", "certify_free": "heap, way",
    },
    "reports": {"way_table": "heap", "property_table": "heap"},
}

CLASSES = {
    "heaps": {"Heap": ("worths, pairs", {
        "line": "worths, places, reach", "words": "worths, words, most", "near": "self, thing", "only": "self, things",
        "__len__": "self", "__repr__": "self", "__eq__": "self, other",
    })},
    "live": {"LiveHeap": ("way", {
        "arrive": "self, worth, near", "arrive_all": "self, *deeds, watch=None", "undo": "self", "trial": "self",
        "__len__": "self", "__repr__": "self",
    })},
    "console": {"Console": ("way", {"say": "self, line"})},
}


def module(name):
    return importlib.import_module(f"keptlikes.{name}")


def signature_of(call):
    return str(inspect.signature(call)).strip("()")


def blocks_of(path):
    """The examples of a text in which they stand between lines of three backquotes."""
    return re.findall(r"```\n(>>> .*?)```", path.read_text(encoding="utf-8"), re.DOTALL)


class Listed(unittest.TestCase):
    def test_functions(self):
        for file, functions in FUNCTIONS.items():
            for name, parameters in functions.items():
                with self.subTest(file=file, name=name):
                    call = getattr(module(file), name)
                    self.assertTrue(inspect.isfunction(call))
                    self.assertEqual(call.__module__, f"keptlikes.{file}")
                    self.assertEqual(call.__name__, name)
                    self.assertEqual(signature_of(call), parameters)

    def test_classes(self):
        for file, classes in CLASSES.items():
            for name, (parameters, methods) in classes.items():
                found = getattr(module(file), name)
                self.assertTrue(inspect.isclass(found))
                self.assertEqual(found.__module__, f"keptlikes.{file}")
                self.assertEqual(signature_of(found), parameters)
                for method, given in methods.items():
                    with self.subTest(name=name, method=method):
                        self.assertIn(method, vars(found))
                        self.assertEqual(signature_of(getattr(found, method)), given)

    def test_static_methods(self):
        for name in ("line", "words"):
            self.assertIsInstance(vars(Heap)[name], staticmethod)

    def test_attributes_are_set_when_the_object_is_created(self):
        for held, names in (
            (Heap((1,), ()), ("worths", "pairs", "lots", "passes_on")),
            (LiveHeap("first"), ("way", "heap", "kept", "busy")),
        ):
            for name in names:
                self.assertTrue(hasattr(held, name))


class Everywhere(unittest.TestCase):
    """What the points say of all of the program."""

    def test_equality_works_for_all_values(self):
        for held in (Heap((1,), ()), LiveHeap("first"), Console("first"), LiveHeap("first").trial()):
            for value in (None, 3, "x", (), [], {}, set(), object(), Heap, Heap((2,), ()), LiveHeap("first")):
                self.assertIs(held == value, False)
                self.assertIs(held != value, True)
            self.assertIs(held == held, True)
            self.assertIs(held != held, False)

    def test_what_has_no_length_is_true(self):
        for held in (Heap((1,), ()), Console("first"), LiveHeap("first").trial()):
            self.assertTrue(held)
        self.assertFalse(LiveHeap("first"))

    def test_a_heap_is_changed_by_nothing(self):
        heap = sample_heap()
        before = (heap.worths, heap.pairs, heap.lots, heap.passes_on, repr(heap), [heap.near(at) for at in range(3)])
        for name in ("orders", "properties", "certificates", "reports"):
            for function, parameters in FUNCTIONS[name].items():
                given = {"heap": heap, "way": "better", "name": "just", "order": (2, 0, 1), "things": (0, 2)}
                call = getattr(module(name), function)
                call(**{word: given[word] for word in parameters.split(", ")})
        after = (heap.worths, heap.pairs, heap.lots, heap.passes_on, repr(heap), [heap.near(at) for at in range(3)])
        self.assertEqual(after, before)
        self.assertEqual(heap, sample_heap())


class Readme(unittest.TestCase):
    def test_its_examples(self):
        names = {}
        blocks = blocks_of(Path(__file__).parent.parent / "README.md")
        self.assertGreater(len(blocks), 3)
        for at, block in enumerate(blocks):
            example = doctest.DocTestParser().get_doctest(block, names, f"block {at}", "README.md", 0)
            runner = doctest.DocTestRunner(verbose=False)
            runner.run(example, clear_globs=False)
            names = example.globs
            self.assertEqual(runner.summarize(verbose=False).failed, 0)


if __name__ == "__main__":
    unittest.main()
