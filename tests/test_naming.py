"""What the document says of naming: new, a and b, and how many matrices are held."""

import unittest

from calling import METRES, after, fill

# Each call with a name new, with new and its sources to be filled in.
SOURCES = {"enter": 0, "add": 2, "scale": 1, "times": 2, "turn": 1, "power": 1, "inverse": 1, "reduce": 1, "kernel": 1,
           "solve": 2}
# What is answered where nothing is refused and the sources hold 1; a kernel of 1 has no columns.
ANSWERS = {"reduce": (0, 1), "kernel": (0, 0), "solve": (0, 0)}


def call(name, new, sources):
    if name == "power":
        return ("power", 2, new, sources[0])
    if name == "enter":
        return ("enter", new, "1")
    if name == "scale":
        return ("scale", new, sources[0], "2")
    return tuple([name, new] + sources[:SOURCES[name]])


class Naming(unittest.TestCase):
    def test_new_is_a_word(self):
        for name in SOURCES:
            for new in ["", "A", "1a", "a b", "a" * 13, "a-", "\xff"]:
                self.assertEqual(after(fill(1), call(name, new, ["f0", "f0"])), [-1], (name, new))
            given = after(fill(1), call(name, "a" * 12, ["f0", "f0"]), ("form", "a" * 12))
            self.assertEqual(given, [ANSWERS.get(name, 0), -8 if name == "kernel" else "1 by 1"])

    def test_sources_are_held(self):
        for name in SOURCES:
            if SOURCES[name] > 0:
                self.assertEqual(after(fill(1), call(name, "c", ["x", "f0"]), ("show", "c")), [-8, -8], name)
                self.assertEqual(after(fill(1), call(name, "c", ["A!", "f0"])), [-8], name)
                self.assertEqual(after(METRES + fill(1), call(name, "c", ["m", "f0"])), [-8], name)
            if SOURCES[name] > 1:
                self.assertEqual(after(fill(1), call(name, "c", ["f0", "x"]), ("show", "c")), [-8, -8], name)
                self.assertEqual(after(fill(1), call(name, "c", ["f0", "c"])), [-8], name)

    def test_twenty_matrices(self):
        for name in SOURCES:
            answer = ANSWERS.get(name, 0)
            self.assertEqual(after(fill(19), call(name, "c", ["f0", "f1"])), [answer], name)
            given = after(fill(20), call(name, "c", ["f0", "f1"]), ("show", "c"), call(name, "f19", ["f0", "f1"]),
                          call(name, "f0", ["f0", "f1"]), call(name, "f1", ["f0", "f1"]))
            self.assertEqual(given, [-3, -8, answer, answer, answer], name)

    def test_order(self):
        for name in SOURCES:
            self.assertEqual(after(fill(20), call(name, "C", ["x", "y"])), [-1], name)
            if SOURCES[name] > 0:
                self.assertEqual(after(fill(20), call(name, "c", ["x", "y"])), [-8], name)

    def test_ahead_of_all_else(self):
        start = METRES + fill(18) + [("enter", "p", "1[m], 2[s]"), ("enter", "q", "3")]
        for refused in [("add", "c", "p", "q"), ("scale", "c", "p", "!"), ("scale", "c", "p", "1[x]"),
                        ("times", "c", "p", "q"), ("power", 2, "c", "p"), ("enter", "c", "!"), ("inverse", "c", "p"),
                        ("solve", "c", "p", "q"), ("solve", "c", "p", "p")]:
            self.assertEqual(after(start, refused), [-3], refused)
        for refused in [("add", "C", "p", "q"), ("scale", "C", "p", "!"), ("times", "C", "p", "q"), ("enter", "C", "!"),
                        ("inverse", "C", "p"), ("solve", "C", "p", "q"), ("kernel", "C", "p"), ("reduce", "", "p")]:
            self.assertEqual(after(start, refused), [-1], refused)

    def test_ahead_of_no_inverse_and_no_solution(self):
        start = fill(18) + [("enter", "p", "0"), ("enter", "q", "1")]
        self.assertEqual(after(start, ("inverse", "c", "p"), ("solve", "c", "p", "q"), ("inverse", "C", "p"),
                               ("solve", "C", "p", "q"), ("inverse", "p", "p"), ("solve", "p", "p", "q")),
                         [-3, -3, -1, -1, -11, (1, 0)])

    def test_calls_without_new(self):
        for name, count in [("show", 1), ("form", 1), ("det", 1), ("poly", 1), ("same", 2), ("drop", 1)]:
            for missing in ["x", "", "A", "f00", "f0 ", "\xff", "x" * 10000]:
                self.assertEqual(after(fill(1), tuple([name] + [missing] * count), ("all",)), [-8, "f0"], name)
        self.assertEqual(after(fill(1) + [("enter", "p", "1, 2")], ("same", "p", "x"), ("same", "x", "p")), [-8, -8])

    def test_refused_leaves_what_was_held(self):
        start = METRES + [("enter", "a", "1[m], 2[s]"), ("enter", "b", "3")]
        for refused, answer in [
            (("add", "a", "a", "b"), -9), (("scale", "a", "a", "!"), -4), (("scale", "a", "a", "1[x]"), -5),
            (("scale", "a", "a", "1[m^99.m]"), -7), (("times", "a", "a", "b"), -9), (("power", 2, "a", "a"), -13),
            (("power", 0, "a", "a"), -2), (("turn", "a", "x"), -8), (("add", "a", "a", "x"), -8), (("det", "a"), -13),
            (("inverse", "a", "a"), -13), (("inverse", "a", "x"), -8), (("reduce", "a", "x"), -8), (("drop", "x"), -8),
            (("reduce", "A", "a"), -1), (("kernel", "a", "x"), -8), (("kernel", "A", "a"), -1), (("poly", "a"), -13),
            (("solve", "b", "a", "x"), -8), (("same", "a", "x"), -8),
            (("solve", "A", "a", "a"), -1), (("det", "x"), -8), (("poly", "x"), -8),
        ]:
            self.assertEqual(after(start, refused, ("show", "a"), ("show", "b"), ("all",)),
                             [answer, "1[m], 2[s]", "3", "a b"], refused)


if __name__ == "__main__":
    unittest.main()
