"""Promises 4 and 5: show and form."""

import unittest

from calling import METRES, TEN_39, after, run


def long_matrix(extra):
    """Matrices without measures, which are shown in 7998 and extra signs."""
    powers = [22] * 36
    for place in range(8 + extra):
        powers[place] += 1
    rows = [", ".join("1" + "0" * power for power in powers[start:start + 6]) for start in range(0, 36, 6)]
    down = ("scale", "a", "a", f"1/{3 ** 83}")
    return [("enter", "a", "; ".join(rows))] + [("scale", "a", "a", TEN_39)] * 4 + [down]


class Show(unittest.TestCase):
    def test_entries(self):
        self.assertEqual(after(METRES, ("enter", "a", "1, 0[1], 2/4, -3; 4[m/s], 0, 0, -6/9[m/s]"), ("show", "a")),
                         [0, "1, 0[1], 1/2, -3; 4[m.s^-1], 0[m.s^-1], 0[m.s^-1], -2/3[m.s^-1]"])

    def test_powers(self):
        self.assertEqual(after(METRES, ("enter", "a", "1[m^-2.s]"), ("show", "a"), ("enter", "a", "-0[s^10/m]"),
                               ("show", "a")), [0, "1[m^-2.s]", 0, "0[m^-1.s^10]"])

    def test_zeros_without_bases(self):
        self.assertEqual(run(("enter", "a", "0, 1; 0, 0"), ("show", "a")), [0, "0[1], 1; 0[1], 0[1]"])

    def test_shown_text_can_be_entered(self):
        start = METRES + [("enter", "a", "1[m], 0, 0[1]; 0[km^2], 3/7[s], 0")]
        text = after(start, ("show", "a"))[0]
        self.assertEqual(after(start, ("enter", "b", text), ("show", "b"), ("form", "b"), ("form", "a"))[:2], [0, text])
        forms = after(start, ("enter", "b", text), ("form", "b"), ("form", "a"))
        self.assertEqual(forms[1], forms[2])

    def test_eight_thousand_bytes(self):
        self.assertEqual([len(text) for text in after(long_matrix(1), ("show", "a"))], [7999])
        self.assertEqual([len(text) for text in after(long_matrix(2), ("show", "a"))], [8000])
        self.assertEqual(after(long_matrix(3), ("show", "a")), [-6])
        self.assertEqual(after(long_matrix(20), ("show", "a"), ("form", "a")),
                         [-6, "1, 1, 1, 1, 1, 1 by 1, 1, 1, 1, 1, 1"])

    def test_too_long_only_with_its_measures(self):
        names = [f"a23456789_{number}" for number in range(8)]
        start = [("base", name) for name in names] + long_matrix(2)
        measure = ".".join(f"{name}^-99" for name in names)
        self.assertEqual(len(after(start, ("show", "a"))[0]), 8000)
        self.assertEqual(after(start, ("scale", "a", "a", f"1[{measure}]"), ("show", "a")), [0, -6])

    def test_not_held(self):
        self.assertEqual(after(METRES, ("show", "a"), ("show", "m"), ("show", ""), ("show", "A"), ("show", "x" * 13)),
                         [-8] * 5)
        self.assertEqual(after([("enter", "a", "1")], ("show", "aa"), ("show", "a "), ("show", "?")), [-8] * 3)


class Form(unittest.TestCase):
    def test_measures(self):
        self.assertEqual(after(METRES, ("enter", "a", "1"), ("form", "a")), [0, "1 by 1"])
        self.assertEqual(after(METRES, ("enter", "a", "1[km], 2[s^2]; 1[m/s], 0"), ("form", "a")),
                         [0, "m, m.s^-1 by 1, m.s^-2"])
        self.assertEqual(run(("enter", "a", "0, 1; 0, 0; 2, 0"), ("form", "a")), [0, "1, 1, 1 by 1, 1"])

    def test_base_that_comes_later(self):
        self.assertEqual(after(METRES + [("enter", "a", "1[m], 0[s]")], ("base", "kg"), ("form", "a"), ("show", "a"),
                               ("enter", "b", "1[kg.m]"), ("times", "c", "b", "a"), ("show", "c")),
                         [0, "m by 1, m.s^-1", "1[m], 0[s]", 0, 0, "1[m^2.kg], 0[m.s.kg]"])

    def test_base_behind_matrices_without_bases(self):
        start = [("enter", "a", "1, 0; 0, 1"), ("enter", "z", "0")]
        self.assertEqual(after(start, ("base", "m"), ("form", "a"), ("show", "z"), ("enter", "b", "1, 0; 0, 1"),
                               ("scale", "b", "a", "1[m]"), ("form", "b"), ("power", 2, "a", "a"), ("show", "a")),
                         [0, "1, 1 by 1, 1", "0[1]", -12, 0, "m, m by 1, 1", 0, "1, 0[1]; 0[1], 1"])

    def test_units_behind_a_later_base(self):
        self.assertEqual(after([("base", "m"), ("unit", "k", "5 m")], ("base", "s"), ("enter", "a", "1[k.s]"),
                               ("show", "a")), [0, 0, "5[m.s]"])

    def test_not_held(self):
        self.assertEqual(after(METRES, ("form", "a"), ("form", ""), ("form", "1")), [-8] * 3)


if __name__ == "__main__":
    unittest.main()
