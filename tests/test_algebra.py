"""Promises 6 to 10: add, scale, times, turn and power."""

import unittest

from calling import METRES, TEN_39, after, run

# big is 10^195; one more scale by 10000 brings it to 10^199, the largest power of ten that an entry may have.
BIG = [("enter", "big", "1")] + [("scale", "big", "big", TEN_39)] * 5
SMALL = [("enter", "small", "1")] + [("scale", "small", "small", "1/" + TEN_39)] * 5
# 10^100
HALF = [("enter", "half", "1")] + [("scale", "half", "half", "1" + "0" * 25)] * 4


class Add(unittest.TestCase):
    def add(self, a, b):
        return after(METRES + [("enter", "a", a), ("enter", "b", b)], ("add", "c", "a", "b"), ("show", "c"))

    def test_sums(self):
        self.assertEqual(self.add("1, 1/2; 3, 4", "1/3, 1/2; -3, 2/6"), [0, "4/3, 1; 0[1], 13/3"])
        self.assertEqual(self.add("1[m], 2[s]", "1[km], -2[s]"), [0, "1001[m], 0[s]"])
        self.assertEqual(self.add("1[m]; 0[s]", "1[m]; 5[s]"), [0, "2[m]; 5[s]"])

    def test_other_shape(self):
        for a, b in [("1, 2", "1"), ("1", "1, 2"), ("1; 2", "1"), ("1", "1; 2"), ("1, 2", "1; 2"), ("1, 2; 3, 4", "1, 2")]:
            self.assertEqual(self.add(a, b), [-9, -8], (a, b))

    def test_other_measures(self):
        for a, b in [("1[m]", "1[s]"), ("0[m]", "0[s]"), ("1[m]", "1"), ("1, 1[m]", "1, 1[s]"), ("1; 1[m]", "1; 1[s]"),
                     ("1[m], 0[s]", "1[m], 0[1]")]:
            self.assertEqual(self.add(a, b), [-10, -8], (a, b))

    def test_shape_is_ahead_of_measures(self):
        self.assertEqual(self.add("1[m]", "1[s], 1[s]"), [-9, -8])

    def test_form_is_a_s(self):
        self.assertEqual(after(METRES + [("enter", "a", "1[m], 2[s]; 3[m^2], 0")], ("add", "c", "a", "a"), ("form", "c")),
                         [0, "m, m^2 by 1, m.s^-1"])

    def test_onto_itself(self):
        start = [("enter", "a", "1/2, 3"), ("enter", "b", "1, 1")]
        self.assertEqual(after(start, ("add", "a", "a", "a"), ("show", "a"), ("add", "b", "a", "b"), ("show", "b"),
                               ("show", "a")), [0, "1, 6", 0, "2, 7", "1, 6"])

    def test_far_entries(self):
        start = BIG + [("scale", "big", "big", "50000")]
        self.assertEqual(after(start, ("add", "c", "big", "big"), ("show", "c"), ("scale", "d", "big", "1/5"),
                               ("add", "d", "big", "d"), ("show", "d")), [-7, -8, 0, 0, "6" + "0" * 199])
        negative = start + [("scale", "big", "big", "-1")]
        self.assertEqual(after(negative, ("add", "c", "big", "big")), [-7])

    def test_far_denominators(self):
        start = [("enter", "a", "1"), ("enter", "b", "1")]
        down = [("scale", "a", "a", "1/1" + "0" * 25)] * 4 + [("scale", "b", "b", "1/3" + "0" * 24 + "1")] * 4
        self.assertEqual(after(start + down, ("add", "c", "a", "b"), ("show", "c"), ("add", "c", "a", "a"), ("show", "c")),
                         [-7, -8, 0, "1/5" + "0" * 99])


class Scale(unittest.TestCase):
    def scale(self, a, by):
        return after(METRES + [("enter", "a", a)], ("scale", "c", "a", by), ("show", "c"))

    def test_products(self):
        self.assertEqual(self.scale("1[m], 2[s]; 3[km], 0", "1/2[km/s]"),
                         [0, "500[m^2.s^-1], 1000[m]; 1500000[m^2.s^-1], 0[m]"])
        self.assertEqual(self.scale("1, 2", "-3"), [0, "-3, -6"])
        self.assertEqual(self.scale("1[m], 2", "0"), [0, "0[m], 0[1]"])
        self.assertEqual(self.scale("1[m], 2", "0[s]"), [0, "0[m.s], 0[s]"])
        self.assertEqual(self.scale("2/3", "0.75[1]"), [0, "1/2"])
        self.assertEqual(self.scale("1", "0[m^0]"), [0, "0[1]"])

    def test_form(self):
        self.assertEqual(after(METRES + [("enter", "a", "1[m], 2[s]; 3[km], 0")], ("scale", "a", "a", "1[s]"),
                               ("form", "a")), [0, "m.s, m.s by 1, m.s^-1"])

    def test_no_cells(self):
        for by in ["", " ", " 2", "2 ", "2 [m]", "[m]", "m", "2[m] ", "1, 2", "1; 2", "1/0", "2[]", "2[m", "2[m^100]",
                   "2[" + ".".join(["1"] * 21) + "]", "1" * 41, "0" * 91, "2\n", "2 m", "x" * 10000, "2[1]]"]:
            self.assertEqual(self.scale("1", by), [-4, -8], by)

    def test_longest_cell(self):
        start = [("unit", "a23456789012", "1"), ("enter", "a", "1")]
        by = "0" * 89 + "3[" + "/".join(["a23456789012^-99"] * 20) + "]"
        self.assertEqual(after(start, ("scale", "a", "a", by), ("show", "a")), [0, "3"])

    def test_unknown(self):
        self.assertEqual(self.scale("1", "2[x]"), [-5, -8])
        self.assertEqual(self.scale("1", "0[m^99.m.x]"), [-5, -8])

    def test_far_worth(self):
        self.assertEqual(self.scale("1", "1[m^99.m]"), [-7, -8])
        self.assertEqual(self.scale("1", "0[km^14]"), [-7, -8])
        self.assertEqual(self.scale("0[1]", "1[km^13]"), [0, "0[m^13]"])

    def test_far_entries(self):
        self.assertEqual(after(BIG, ("scale", "c", "big", "9999"), ("scale", "d", "big", "10000"),
                               ("scale", "d", "d", "10"), ("scale", "d", "d", "-10"), ("scale", "d", "d", "99/10")),
                         [0, 0, -7, -7, 0])
        self.assertEqual(after(SMALL, ("scale", "c", "small", "1/10000"), ("scale", "c", "c", "1/10"),
                               ("scale", "c", "c", "10"), ("show", "c")), [0, -7, 0, "1/1" + "0" * 198])
        self.assertEqual(after(BIG, ("scale", "c", "big", "100000"), ("scale", "c", "big", "-100000"), ("show", "c")),
                         [-7, -7, -8])

    def test_rows_at_999(self):
        for sign in ["", "-"]:
            start = METRES + [("enter", "a", "1; 0[1]")] + [("scale", "a", "a", f"1[s^{sign}99]")] * 10
            self.assertEqual(after(start, ("scale", "b", "a", f"1[s^{sign}9]"), ("form", "b"),
                                   ("scale", "c", "a", f"1[s^{sign}10]"), ("scale", "b", "b", f"1[s^{sign}1]"),
                                   ("scale", "c", "a", f"0[s^{sign}99]"), ("show", "c"), ("form", "b")),
                             [0, f"s^{sign}999, s^{sign}999 by 1", -7, -7, -7, -8, f"s^{sign}999, s^{sign}999 by 1"])


class Times(unittest.TestCase):
    def times(self, a, b):
        return after(METRES + [("enter", "a", a), ("enter", "b", b)], ("times", "c", "a", "b"), ("show", "c"))

    def test_products(self):
        self.assertEqual(self.times("1, 2; 3, 4", "5, 6; 7, 8"), [0, "19, 22; 43, 50"])
        self.assertEqual(self.times("1/2, 1/3", "1/5; 1/7"), [0, "31/210"])
        self.assertEqual(self.times("1; 2", "3, 4, 5"), [0, "3, 4, 5; 6, 8, 10"])
        self.assertEqual(self.times("1, -1", "1; 1"), [0, "0[1]"])
        self.assertEqual(self.times("1[m]", "2[s]"), [0, "2[m.s]"])

    def test_measures(self):
        # columns 1 and m/s of a, rows s and m of b: h is s
        start = METRES + [("enter", "a", "1[m], 2[s]; 3[s], 4[s^2/m]"), ("enter", "b", "5[s], 6; 7[m], 8[m/s]")]
        self.assertEqual(after(start, ("times", "c", "a", "b"), ("show", "c"), ("form", "c")),
                         [0, "19[m.s], 22[m]; 43[s^2], 50[s]", "m.s, s^2 by 1, s"])

    def test_document(self):
        start = METRES + [("enter", "a", "1[m], 2[s]; 3[km], 0")]
        self.assertEqual(after(start, ("times", "p", "a", "a"), ("show", "p")), [-10, -8])

    def test_other_shape(self):
        for a, b in [("1, 2", "1, 2"), ("1; 2", "1; 2"), ("1", "1; 2"), ("1, 2, 3", "1, 2; 3, 4"), ("1[m], 1", "1")]:
            self.assertEqual(self.times(a, b), [-9, -8], (a, b))

    def test_other_measures(self):
        for a, b in [("1, 1[m]", "1; 1[m]"), ("1, 1", "1; 0[s]"), ("1, 1, 1[m]", "1; 1; 1")]:
            self.assertEqual(self.times(a, b), [-10, -8], (a, b))
        self.assertEqual(self.times("1, 1[m]", "1; 1[1/m]"), [0, "2"])

    def test_onto_its_parts(self):
        start = [("enter", "a", "1, 2; 3, 4"), ("enter", "b", "0, 1; 1, 0")]
        self.assertEqual(after(start, ("times", "a", "a", "b"), ("show", "a"), ("times", "b", "a", "b"), ("show", "b"),
                               ("times", "b", "b", "b"), ("show", "b")),
                         [0, "2, 1; 4, 3", 0, "1, 2; 3, 4", 0, "7, 10; 15, 22"])

    def test_entries_at_ten_to_the_two_hundredth(self):
        start = HALF + [("enter", "one", "1"), ("enter", "less", "-1"), ("add", "up", "half", "one"),
                        ("add", "down", "half", "less")]
        self.assertEqual(after(start, ("times", "c", "half", "half"), ("times", "c", "up", "down"), ("show", "c"),
                               ("add", "d", "c", "one"), ("scale", "c", "c", "-1"), ("show", "c"),
                               ("add", "d", "c", "less")), [-7, 0, "9" * 200, -7, 0, "-" + "9" * 200, -7])

    def test_denominators_at_ten_to_the_two_hundredth(self):
        start = [("enter", "a", "1")] + [("scale", "a", "a", "1/1" + "0" * 25)] * 4 + [("scale", "b", "a", "10")]
        self.assertEqual(after(start, ("times", "c", "a", "a"), ("times", "c", "a", "b"), ("show", "c")),
                         [-7, 0, "1/1" + "0" * 199])

    def test_parts_may_be_far(self):
        # 10^195 * 10^195 - 10^195 * 10^195 is 0
        start = BIG + [("enter", "l", "1, 1"), ("enter", "r", "1; -1")]
        scales = [("scale", "l", "l", TEN_39), ("scale", "r", "r", TEN_39)] * 5
        self.assertEqual(after(start + scales, ("times", "c", "l", "r"), ("show", "c"), ("times", "c", "r", "l"),
                               ("show", "c")), [0, "0[1]", -7, "0[1]"])

    def test_rows_at_999(self):
        start = METRES + [("enter", "a", "1[m^99]")] + [("scale", "a", "a", "1[m^99]")] * 8
        self.assertEqual(after(start, ("enter", "b", "1[m^99]"), ("times", "a", "a", "b"), ("enter", "b", "1[m^9]"),
                               ("times", "c", "a", "b"), ("form", "c"), ("enter", "b", "1[m^10]"), ("times", "c", "b", "a"),
                               ("form", "c")), [0, 0, 0, 0, "m^999 by 1", 0, -7, "m^999 by 1"])


class Turn(unittest.TestCase):
    def test_turned(self):
        start = METRES + [("enter", "a", "1[m], 2[s], 3; 4[m^2], 0, -5/3[m]")]
        self.assertEqual(after(start, ("turn", "b", "a"), ("show", "b"), ("form", "b"), ("turn", "b", "b"), ("show", "b"),
                               ("form", "b")),
                         [0, "1[m], 4[m^2]; 2[s], 0[m.s]; 3, -5/3[m]", "m, s, 1 by 1, m^-1",
                          0, "1[m], 2[s], 3; 4[m^2], 0[m.s], -5/3[m]", "m, m^2 by 1, m.s^-1, m"])

    def test_onto_itself(self):
        self.assertEqual(run(("enter", "a", "1, 2"), ("turn", "a", "a"), ("show", "a")), [0, 0, "1; 2"])

    def test_far_rows(self):
        # a's row m^999 by its column 1, m^99: turned, its rows are m^999 and m^900; by m^-1, 1000
        start = METRES + [("enter", "a", "1, 1[m^-99]")] + [("scale", "a", "a", "1[m^99]")] * 10
        self.assertEqual(after(start, ("scale", "b", "a", "1[m^9]"), ("form", "b"), ("turn", "c", "b"), ("form", "c")),
                         [0, "m^999 by 1, m^99", 0, "m^999, m^900 by 1"])
        start = METRES + [("enter", "a", "1, 1[m^9]")] + [("scale", "a", "a", "1[m^99]")] * 10
        self.assertEqual(after(start, ("form", "a"), ("turn", "c", "a"), ("form", "c"), ("scale", "b", "a", "1[m]"),
                               ("form", "b"), ("turn", "c", "b"), ("form", "c")),
                         ["m^990 by 1, m^-9", 0, "m^990, m^999 by 1", 0, "m^991 by 1, m^-9", -7, "m^990, m^999 by 1"])


class Power(unittest.TestCase):
    def test_powers(self):
        start = [("enter", "a", "1, 1; 1, 0")]
        shown = ["1, 1; 1, 0[1]", "2, 1; 1, 1", "3, 2; 2, 1", "5, 3; 3, 2", "8, 5; 5, 3", "13, 8; 8, 5", "21, 13; 13, 8",
                 "34, 21; 21, 13", "55, 34; 34, 21"]
        for n in range(1, 10):
            self.assertEqual(after(start, ("power", n, "b", "a"), ("show", "b")), [0, shown[n - 1]], n)

    def test_fractions(self):
        self.assertEqual(run(("enter", "a", "1/2, 1/3; 0, -1"), ("power", 3, "a", "a"), ("show", "a")),
                         [0, 0, "1/8, 1/4; 0[1], -1"])

    def test_measures(self):
        # rows m and m/s, columns 1 and 1/s: h is m
        start = METRES + [("enter", "a", "1[m], 2[m.s]; 3[m/s], 4[m]")]
        self.assertEqual(after(start, ("power", 3, "b", "a"), ("show", "b"), ("form", "b"), ("power", 1, "b", "a"),
                               ("show", "b")),
                         [0, "37[m^3], 54[m^3.s]; 81[m^3.s^-1], 118[m^3]", "m^3, m^3.s^-1 by 1, s^-1",
                          0, "1[m], 2[m.s]; 3[m.s^-1], 4[m]"])

    def test_no_such_power(self):
        for n in [0, -1, 10, -9, 10 ** 18, -10 ** 18]:
            self.assertEqual(after([("enter", "a", "1")], ("power", n, "b", "a"), ("show", "b")), [-2, -8], n)

    def test_ahead_of_naming(self):
        self.assertEqual(run(("power", 0, "B", "x"), ("power", 10, "b", "x"), ("power", 1, "B", "x"),
                             ("power", 9, "b", "x")), [-2, -2, -1, -8])

    def test_not_square(self):
        for text in ["1, 2", "1; 2", "1, 2, 3; 4, 5, 6"]:
            for n in [1, 2, 9]:
                self.assertEqual(after([("enter", "a", text)], ("power", n, "b", "a"), ("show", "b")), [-13, -8])
        self.assertEqual(after(METRES + [("enter", "a", "1[m], 1; 1, 1[1/m]; 1[s], 1[s/m]")], ("power", 2, "b", "a")),
                         [-13])

    def test_not_by_itself(self):
        start = METRES + [("enter", "a", "1[m], 2[s]; 3[km], 0")]
        self.assertEqual(after(start, ("power", 2, "b", "a"), ("power", 9, "b", "a"), ("show", "b"), ("power", 1, "b", "a"),
                               ("show", "b")), [-10, -10, -8, 0, "1[m], 2[s]; 3000[m], 0[s]"])

    def test_onto_itself(self):
        self.assertEqual(run(("enter", "a", "2"), ("power", 9, "a", "a"), ("show", "a")), [0, 0, "512"])

    def test_far_on_the_way(self):
        start = [("enter", "a", "0, 1, 0; 0, 0, 1; 0, 0, 0")] + [("scale", "a", "a", TEN_39)] * 5
        self.assertEqual(after(start, ("power", 2, "b", "a"), ("power", 3, "b", "a"), ("show", "b")),
                         [-7, 0, "0[1], 0[1], 0[1]; 0[1], 0[1], 0[1]; 0[1], 0[1], 0[1]"])

    def test_far_entries(self):
        self.assertEqual(run(("enter", "a", "1" + "0" * 22), ("power", 9, "b", "a"), ("show", "b"),
                             ("scale", "a", "a", "10"), ("power", 8, "c", "a"), ("power", 9, "c", "a"),
                             ("enter", "a", "1/1" + "0" * 23), ("power", 9, "c", "a")),
                         [0, 0, "1" + "0" * 198, 0, 0, -7, 0, -7])

    def test_far_rows(self):
        start = METRES + [("enter", "a", "1[m^99]"), ("scale", "a", "a", "1[m^12]")]
        self.assertEqual(after(start, ("power", 9, "b", "a"), ("form", "b"), ("scale", "a", "a", "1[m]"),
                               ("power", 9, "b", "a"), ("form", "b"), ("power", 8, "b", "a"), ("form", "b")),
                         [0, "m^999 by 1", 0, -7, "m^999 by 1", 0, "m^896 by 1"])


if __name__ == "__main__":
    unittest.main()
