"""The interface of the document: each listed name, its arguments, and those behind a star."""

import importlib
import inspect
import unittest

FUNCTIONS = {
    "walks": ("walk(trace, room, *, rule='last')", "faults(trace, room, *, rule='last')", "depths(trace)",
              "curve(trace)", "dip(trace)"),
    "fewest": ("fewest(trace, room)", "bound(trace, room, paper)", "paper(trace, room)"),
    "working": ("working(trace, window)", "window_walk(trace, window)"),
    "turns": ("story(jobs, frames, *, turn=1)", "job_faults(jobs, frames, *, turn=1)"),
    "colours": ("take(shares, free, many)", "wall(shares, free, many)"),
    "deals": ("deal(traces, frames)", "deal_faults(traces, rooms)", "price_bound(traces, frames, price)",
              "price(traces, frames)"),
    "loose": ("loose(traces, frames, *, turn=1)", "loose_faults(traces, frames, *, turn=1)"),
}
CLASSES = {
    ("memories", "Memory(pages, words, room, *, rule='last')"): (
        "read(self, page, word)", "write(self, page, word, worth)", "walk(self)", "held(self)", "soiled(self)",
        "written(self)"),
    ("houses", "House(tasks, frames, *, colours=1)"): (
        "read(self, task, page, word)", "write(self, task, page, word, worth)", "frames(self)",
        "shares(self, task)", "written(self)"),
}
REFUSALS = ("NoRule", "NoRoom", "NoPage", "NoWord", "NoWindow", "NoTurn", "NoColour", "NoTask")


def module(name):
    return importlib.import_module("pagerooms." + name)


def told_as(name, what):
    return name + str(inspect.signature(what))


class TestInterface(unittest.TestCase):
    def test_functions(self):
        for file, listed in FUNCTIONS.items():
            for one in listed:
                name = one.split("(")[0]
                told = getattr(module(file), name)
                self.assertTrue(inspect.isfunction(told), one)
                self.assertEqual(told_as(name, told), one)
                self.assertEqual(told.__module__, "pagerooms." + file)

    def test_classes_and_their_own_methods(self):
        for (file, one), methods in CLASSES.items():
            name = one.split("(")[0]
            kind = getattr(module(file), name)
            self.assertTrue(inspect.isclass(kind), one)
            self.assertEqual(told_as(name, kind), one)
            for method in methods:
                called = method.split("(")[0]
                self.assertEqual(told_as(called, vars(kind)[called]), method)

    def test_refusals(self):
        errors = module("errors")
        for name in REFUSALS:
            self.assertEqual(told_as(name, getattr(errors, name)), name + "(what)")
            self.assertEqual(getattr(errors, name).__bases__, (errors.PageError,))
        self.assertEqual(errors.PageError.__bases__, (ValueError,))


if __name__ == "__main__":
    unittest.main()
