"""What the document says of naming: new, a and b, and how many matrices are held."""

import unittest

from calling import METRES, after, fill

# Each call with a name new, with new and its sources to be filled in.
SOURCES = {"enter": 0, "add": 2, "scale": 1, "times": 2, "turn": 1, "power": 1}


def call(name, new, sources):
    if name == "power":
        return ("power", 2, new, sources[0])
    if name == "enter":
        return ("enter", new, "1")
    if name == "scale":
        return ("scale", new, sources[0], "2")
    return tuple([name, new] + sources[:SOURCES[name]])


class Naming(unittest.TestCase):
    def test_new_is_a_word(self):
        for name in SOURCES:
            for new in ["", "A", "1a", "a b", "a" * 13, "a-", "\xff"]:
                self.assertEqual(after(fill(1), call(name, new, ["f0", "f0"])), [-1], (name, new))
            self.assertEqual(after(fill(1), call(name, "a" * 12, ["f0", "f0"]), ("form", "a" * 12)), [0, "1 by 1"])

    def test_sources_are_held(self):
        for name in SOURCES:
            if SOURCES[name] > 0:
                self.assertEqual(after(fill(1), call(name, "c", ["x", "f0"]), ("show", "c")), [-8, -8], name)
                self.assertEqual(after(fill(1), call(name, "c", ["A!", "f0"])), [-8], name)
                self.assertEqual(after(METRES + fill(1), call(name, "c", ["m", "f0"])), [-8], name)
            if SOURCES[name] > 1:
                self.assertEqual(after(fill(1), call(name, "c", ["f0", "x"]), ("show", "c")), [-8, -8], name)
                self.assertEqual(after(fill(1), call(name, "c", ["f0", "c"])), [-8], name)

    def test_twenty_matrices(self):
        for name in SOURCES:
            self.assertEqual(after(fill(19), call(name, "c", ["f0", "f1"])), [0], name)
            given = after(fill(20), call(name, "c", ["f0", "f1"]), ("show", "c"), call(name, "f19", ["f0", "f1"]))
            self.assertEqual(given, [-3, -8, 0], name)

    def test_order(self):
        for name in SOURCES:
            self.assertEqual(after(fill(20), call(name, "C", ["x", "y"])), [-1], name)
            if SOURCES[name] > 0:
                self.assertEqual(after(fill(20), call(name, "c", ["x", "y"])), [-8], name)

    def test_ahead_of_all_else(self):
        start = METRES + fill(18) + [("enter", "p", "1[m], 2[s]"), ("enter", "q", "3")]
        for refused in [("add", "c", "p", "q"), ("scale", "c", "p", "!"), ("scale", "c", "p", "1[x]"),
                        ("times", "c", "p", "q"), ("power", 2, "c", "p"), ("enter", "c", "!")]:
            self.assertEqual(after(start, refused), [-3], refused)
        for refused in [("add", "C", "p", "q"), ("scale", "C", "p", "!"), ("times", "C", "p", "q"), ("enter", "C", "!")]:
            self.assertEqual(after(start, refused), [-1], refused)

    def test_refused_leaves_what_was_held(self):
        start = METRES + [("enter", "a", "1[m], 2[s]"), ("enter", "b", "3")]
        for refused, answer in [
            (("add", "a", "a", "b"), -9), (("scale", "a", "a", "!"), -4), (("scale", "a", "a", "1[x]"), -5),
            (("scale", "a", "a", "1[m^99.m]"), -7), (("times", "a", "a", "b"), -9), (("power", 2, "a", "a"), -13),
            (("power", 0, "a", "a"), -2), (("turn", "a", "x"), -8), (("add", "a", "a", "x"), -8),
        ]:
            self.assertEqual(after(start, refused, ("show", "a"), ("show", "b")), [answer, "1[m], 2[s]", "3"], refused)


if __name__ == "__main__":
    unittest.main()
