"""Promises 11 and 16: det and poly."""

import unittest

from calling import METRES, TEN_39, after, diagonal, large, run, scaled, small, total

# of six rows, with the determinant 1 * 2 * 3 * 5 * 7 * 11 brought out of its triangle by adding rows to one another
SIX = "1, 1, 1, 1, 1, 1; 1, 3, 1, 1, 1, 1; 1, 3, 4, 1, 1, 1; 1, 3, 4, 6, 1, 1; 1, 3, 4, 6, 8, 1; 1, 3, 4, 6, 8, 12"
# up is 10^100 + 1 and 10^100 - 1 on its diagonal, even is 10^100 twice
UP = large("even", diagonal([1, 1])) + [("enter", "one", diagonal([1, -1]))] + total("up", "even", "one")


class Det(unittest.TestCase):
    def det(self, text):
        return after(METRES, ("enter", "a", text), ("det", "a"))[-1]

    def test_one_row(self):
        for text, shown in [("5", "5"), ("-2/6", "-1/3"), ("3[km]", "3000[m]"), ("0[m]", "0[m]"), ("0[1]", "0")]:
            self.assertEqual(self.det(text), shown, text)

    def test_two_and_three_rows(self):
        self.assertEqual(self.det("1, 2; 3, 4"), "-2")
        self.assertEqual(self.det("1/2, 1/3; 1/5, 1/7"), "1/210")
        self.assertEqual(self.det("2, 0[1], 1; 1, 3, 2; 1, 1, 4"), "18")
        self.assertEqual(self.det("1, 2, 3; 4, 5, 6; 7, 8, 9"), "0")

    def test_six_rows(self):
        self.assertEqual(self.det(SIX), str(1 * 2 * 3 * 5 * 7 * 11))
        self.assertEqual(run(("enter", "a", diagonal(["1/2", "2/3", "3/4", "4/5", "5/6", "-6/7"])), ("det", "a")),
                         [0, "-1/7"])

    def test_exchanged_rows(self):
        for rows, sign in [([0, 1, 2], ""), ([1, 0, 2], "-"), ([1, 2, 0], ""), ([2, 0, 1], ""), ([2, 1, 0], "-"),
                           ([0, 2, 1], "-"), ([3, 2, 1, 0], ""), ([1, 2, 3, 0], "-"), ([5, 0, 1, 2, 3, 4], "-"),
                           ([1, 0, 3, 2, 5, 4], "-"), ([2, 3, 4, 5, 0, 1], "")]:
            text = "; ".join(", ".join("1" if place == j else "0" for j in range(len(rows))) for place in rows)
            self.assertEqual(run(("enter", "a", text), ("det", "a")), [0, sign + "1"], rows)

    def test_pivots_on_the_way_are_zero(self):
        self.assertEqual(self.det("1, 1, 1; 1, 1, 2; 1, 2, 1"), "-1")
        self.assertEqual(self.det("0[1], 0[1], 2; 0[1], 3, 1; 5, 1, 1"), "-30")
        self.assertEqual(self.det("0[1], 1, 2; 0[1], 3, 4; 0[1], 5, 6"), "0")

    def test_measures(self):
        # rows m, m and columns 1, m/s; rows m, 1 and columns 1, m
        self.assertEqual(self.det("1[m], 2[s]; 3[km], 0"), "-6000[m.s]")
        self.assertEqual(self.det("1[m], 2; 3, 4[1/m]"), "-2")
        self.assertEqual(self.det("1[m], 2; 2, 4[1/m]"), "0")
        self.assertEqual(self.det("1[m], 2[s]; 2[m], 4[s]"), "0[m.s]")
        self.assertEqual(self.det("1[m], 0[1], 0[s]; 0[1/s], 2[1/m.1/s], 0[1/m]; 0[m^2], 0[m], 3[m.s]"), "6[m]")

    def test_measures_beyond_999(self):
        start = METRES + [("enter", "a", "1, 0[1]; 0, 2")] + [("scale", "a", "a", "1[m^-99]")] * 10
        self.assertEqual(after(start, ("scale", "a", "a", "1[m^-9]"), ("det", "a")), [0, "2[m^-1998]"])

    def test_at_ten_to_the_two_hundredth(self):
        self.assertEqual(after(UP, ("det", "even"), ("det", "up"), ("turn", "up", "up"), ("det", "up")),
                         [-7, "9" * 200, 0, "9" * 200])
        start = UP + [("enter", "swap", "0, 1; 1, 0"), ("times", "even", "even", "swap"), ("times", "up", "up", "swap")]
        self.assertEqual(after(start, ("det", "even"), ("det", "up")), [-7, "-" + "9" * 200])

    def test_denominator_at_ten_to_the_two_hundredth(self):
        start = UP + [("inverse", "up", "up"), ("inverse", "even", "even")]
        self.assertEqual(after(start, ("det", "even"), ("det", "up")), [-7, "1/" + "9" * 200])
        start = UP + [("enter", "minus", diagonal([1, -1])), ("times", "even", "even", "minus"),
                      ("times", "up", "up", "minus"), ("inverse", "up", "up"), ("inverse", "even", "even")]
        self.assertEqual(after(start, ("det", "even"), ("det", "up")), [-7, "-1/" + "9" * 200])

    def test_far_only_on_the_way(self):
        ones = "1, 1, 1; 1, 1, 1; 1, 1, 1"
        self.assertEqual(after(large("a", ones), ("det", "a")), ["0"])
        start = large("a", diagonal([1, 0, 0])) + large("b", diagonal([0, 1, 0])) + small("c", diagonal([0, 0, 3]))
        self.assertEqual(after(start + total("a", "a", "b", "c"), ("det", "a")), ["3" + "0" * 100])
        start = large("a", diagonal([1, 0, 0])) + small("b", diagonal([0, 1, 0])) + small("c", diagonal([0, 0, 3]))
        self.assertEqual(after(start + total("a", "a", "b", "c"), ("det", "a")), ["3/1" + "0" * 100])

    def test_not_held(self):
        self.assertEqual(run(("det", "a"), ("det", ""), ("det", "A"), ("enter", "a", "1"), ("det", "b"), ("drop", "a"),
                             ("det", "a")), [-8, -8, -8, 0, -8, 0, -8])

    def test_not_square(self):
        for text in ["1, 2", "1; 2", "1, 2, 3; 4, 5, 6", "1, 2, 3, 4, 5, 6", "1[m], 0[s]"]:
            self.assertEqual(self.det(text), -13, text)
        self.assertEqual(after(large("a", "1, 1; 1, 1; 1, 2"), ("det", "a")), [-13])

    def test_nothing_changes(self):
        start = METRES + [("enter", "a", "1[m], 2[s]; 3[km], 0")]
        self.assertEqual(after(start, ("det", "a"), ("show", "a"), ("form", "a"), ("all",)),
                         ["-6000[m.s]", "1[m], 2[s]; 3000[m], 0[s]", "m, m by 1, m.s^-1", "a"])


def companion(numbers):
    """A matrix whose characteristic numbers are 1 and these."""
    size = len(numbers)
    rows = [["1" if j == i + 1 else "0" for j in range(size)] for i in range(size - 1)]
    rows.append([str(-number) for number in reversed(numbers)])
    return "; ".join(", ".join(row) for row in rows)


class Poly(unittest.TestCase):
    def poly(self, text):
        return after(METRES, ("enter", "a", text), ("poly", "a"))[-1]

    def test_one_to_six_rows(self):
        for numbers in [[7], [-7], [-5, -2], [0, 1], [3, -1, 4], [2, 7, -1, 8], [2, -8, 1, 8, -2], [6, 5, -4, 3, 2, 1],
                        [0, 0, 0, 0, 0, 9], [-1, 2, 0, 0, 7, 0]]:
            shown = ", ".join(str(number) for number in [1] + numbers)
            self.assertEqual(run(("enter", "a", companion(numbers)), ("poly", "a"), ("turn", "a", "a"), ("poly", "a")),
                             [0, shown, 0, shown])

    def test_diagonal(self):
        self.assertEqual(run(("enter", "a", diagonal([1, 2, 3, 4, 5, 6])), ("poly", "a")),
                         [0, "1, -21, 175, -735, 1624, -1764, 720"])
        self.assertEqual(run(("enter", "a", diagonal(["1/2", "1/3", "1/6"])), ("poly", "a")),
                         [0, "1, -1, 11/36, -1/36"])

    def test_zeros(self):
        self.assertEqual(run(("enter", "a", "0, 0; 0, 0"), ("poly", "a"), ("enter", "a", "0"), ("poly", "a")),
                         [0, "1, 0, 0", 0, "1, 0"])
        self.assertEqual(self.poly("0[m], 1[m]; 1[m], 0[m]"), "1, 0[m], -1[m^2]")

    def test_last_is_the_determinant(self):
        for size in range(1, 7):
            text = "; ".join(", ".join(str((3 * i + 5 * j * j + i * j) % 11 - 4) for j in range(size)) for i in range(size))
            numbers, number = run(("enter", "a", text), ("poly", "a"), ("det", "a"))[1:]
            numbers = [int(shown) for shown in numbers.split(", ")]
            self.assertEqual(len(numbers), size + 1)
            self.assertEqual(numbers[0], 1)
            self.assertEqual(numbers[-1], int(number) * (-1) ** size, size)

    def test_measures(self):
        self.assertEqual(self.poly("2[m]"), "1, -2[m]")
        self.assertEqual(self.poly("2[1/km]"), "1, -1/500[m^-1]")
        # rows m, m/s and columns 1, 1/s: h is m
        self.assertEqual(self.poly("1[m], 2[m.s]; 3[m/s], 4[m]"), "1, -5[m], -2[m^2]")
        # rows 1, m and columns 1, m: h is 1
        self.assertEqual(self.poly("1, 2[1/m]; 3[m], 4"), "1, -5, -2")
        self.assertEqual(self.poly("1[1/s], 2[1/m]; 3[m/s^2], 4[1/s]"), "1, -5[s^-1], -2[s^-2]")

    def test_measures_beyond_999(self):
        start = METRES + [("enter", "a", "1, 0[1]; 0, 2")] + [("scale", "a", "a", "1[m^99]")] * 10
        self.assertEqual(after(start, ("poly", "a")), ["1, -3[m^990], 2[m^1980]"])

    def test_last_at_ten_to_the_two_hundredth(self):
        self.assertEqual(after(UP, ("poly", "up"), ("poly", "even")), ["1, -2" + "0" * 100 + ", " + "9" * 200, -7])

    def test_denominator_at_ten_to_the_two_hundredth(self):
        start = UP + [("inverse", "up", "up"), ("inverse", "even", "even")]
        self.assertEqual(after(start, ("poly", "up"), ("poly", "even")),
                         ["1, -2" + "0" * 100 + "/" + "9" * 200 + ", 1/" + "9" * 200, -7])

    def test_sum_at_ten_to_the_two_hundredth(self):
        start = scaled("a", "1, 1; 1, 1", TEN_39, 5) + [("scale", "a", "a", "10000")]
        self.assertEqual(after(start, ("scale", "b", "a", "4"), ("poly", "b"), ("scale", "b", "a", "5"), ("poly", "b"),
                               ("scale", "b", "a", "-5"), ("poly", "b")),
                         [0, "1, -8" + "0" * 199 + ", 0", 0, -7, 0, -7])

    def test_one_between_at_ten_to_the_two_hundredth(self):
        start = large("even", "0, 1, 0; -1, 0, 0; 0, 0, 0")
        start += [("enter", "one", "0, 1, 0; 1, 0, 0; 0, 0, 0")] + total("up", "even", "one")
        self.assertEqual(after(start, ("poly", "even"), ("poly", "up")), [-7, "1, 0, " + "9" * 200 + ", 0"])

    def test_not_held(self):
        self.assertEqual(run(("poly", "a"), ("poly", ""), ("poly", "A"), ("enter", "a", "1"), ("poly", "b")),
                         [-8, -8, -8, 0, -8])

    def test_not_square(self):
        for text in ["1, 2", "1; 2", "1, 2, 3; 4, 5, 6", "1[m], 1[s]", "1[m]; 1[s]"]:
            self.assertEqual(self.poly(text), -13, text)

    def test_no_such_measure(self):
        for text in ["1[m], 2[s]; 3[km], 0", "1, 1[m]; 1, 1[m]", "0[m], 0[s]; 0[s], 0[s^2/m]",
                     "1, 1, 1[m]; 1, 1, 1[m]; 1, 1, 1[m]"]:
            self.assertEqual(self.poly(text), -10, text)

    def test_measure_is_ahead_of_far(self):
        start = METRES + large("a", "1, 1[m]; 1, 2[m]")
        self.assertEqual(after(start, ("det", "a"), ("poly", "a")), [-7, -10])

    def test_nothing_changes(self):
        start = METRES + [("enter", "a", "1, 2; 3, 4")]
        self.assertEqual(after(start, ("poly", "a"), ("show", "a"), ("all",)), ["1, -5, -2", "1, 2; 3, 4", "a"])


if __name__ == "__main__":
    unittest.main()
