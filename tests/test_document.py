"""The document's example, call by call."""

import unittest

from calling import run


class Example(unittest.TestCase):
    def test_example(self):
        calls = [
            (("base", "m"), 0), (("base", "s"), 0), (("unit", "km", "1000 m"), 0),
            (("enter", "a", "1[m], 2[s]; 3[km], 0"), 0),
            (("form", "a"), "m, m by 1, m.s^-1"),
            (("show", "a"), "1[m], 2[s]; 3000[m], 0[s]"),
            (("det", "a"), "-6000[m.s]"),
            (("times", "p", "a", "a"), -10),
            (("inverse", "i", "a"), 0),
            (("show", "i"), "0[m^-1], 1/3000[m^-1]; 1/2[s^-1], -1/6000[s^-1]"),
            (("times", "p", "a", "i"), 0),
            (("show", "p"), "1, 0[1]; 0[1], 1"),
            (("enter", "b", "1, 2; 3, 4"), 0),
            (("poly", "b"), "1, -5, -2"),
            (("enter", "c", "1, 2, 3; 2, 4, 6"), 0),
            (("kernel", "k", "c"), (0, 2)),
            (("show", "k"), "-2, -3; 1, 0[1]; 0[1], 1"),
            (("enter", "d", "1, 0; 0, 1"), -12),
            (("all",), "a i p b c k"),
        ]
        self.assertEqual(run(*[call for call, answer in calls]), [answer for call, answer in calls])


if __name__ == "__main__":
    unittest.main()
