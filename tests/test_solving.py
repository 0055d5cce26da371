"""Promises 12 to 15: inverse, reduce, kernel and solve."""

import unittest

from calling import METRES, after, diagonal, fill, large, run

HILBERT = "; ".join(", ".join(f"1/{i + j + 1}" for j in range(6)) for i in range(6))
# entries of six rows and columns with measures of rows m, s, m.s, 1, s^2, m and of columns 1, m, s, s^2, m/s, 1
SIX_ROWS = ["m", "s", "m.s", "1", "s^2", "m"]
SIX_COLUMNS = ["1", "1/m", "1/s", "1/s^2", "s/m", "1"]
SIX = "; ".join(", ".join(f"{(i * i + 3 * i * j + 2 * j * j + (i == j)) % 7}[{SIX_ROWS[i]}.{SIX_COLUMNS[j]}]"
                          for j in range(6)) for i in range(6))
NINES = "9" * 100
# p holds 10^100 and 10^100 - 1, q holds 1/10^100 and 1/(10^100 + 1): products reach 10^200 or stay one below
EDGES = (large("p", "1") + [("enter", "one", "1"), ("enter", "less", "-1")]
         + [("add", "p_less", "p", "less"), ("add", "q_less", "p", "one"), ("inverse", "q_less", "q_less"),
            ("inverse", "q", "p")])


def beside(new, first, second):
    """The row of two entries that are held as matrices of one row and one column."""
    return [("enter", "left", "1, 0"), ("enter", "right", "0, 1"), ("times", "left", first, "left"),
            ("times", "right", second, "right"), ("add", new, "left", "right")]


def above(new, first, second):
    return beside(new, first, second) + [("turn", new, new)]


class Inverse(unittest.TestCase):
    def inverse(self, text):
        return after(METRES, ("enter", "a", text), ("inverse", "i", "a"), ("show", "i"))[1:]

    def test_one_row(self):
        for text, shown in [("4", "1/4"), ("-2/3", "-3/2"), ("2[km]", "1/2000[m^-1]"), ("1[m/s]", "1[m^-1.s]")]:
            self.assertEqual(self.inverse(text), [0, shown], text)

    def test_small(self):
        self.assertEqual(self.inverse("1, 2; 3, 4"), [0, "-2, 1; 3/2, -1/2"])
        self.assertEqual(self.inverse("0[1], 1; 1, 0[1]"), [0, "0[1], 1; 1, 0[1]"])
        self.assertEqual(self.inverse("0[1], 2, 0[1]; 0[1], 0[1], 4; 5, 0[1], 0[1]"),
                         [0, "0[1], 0[1], 1/5; 1/2, 0[1], 0[1]; 0[1], 1/4, 0[1]"])
        self.assertEqual(self.inverse("1/2, 1/3; 1/4, 1/5"), [0, "12, -20; -15, 30"])

    def test_six_rows(self):
        shown = run(("enter", "a", HILBERT), ("inverse", "i", "a"), ("show", "i"), ("inverse", "i", "i"), ("same", "i", "a"))
        self.assertTrue(shown[2].startswith("36, -630, 3360, -7560, 7560, -2772; -630, 14700, -88200, "))
        self.assertEqual(shown[3:], [0, 1])

    def test_both_products(self):
        start = METRES + [("enter", "a", SIX), ("inverse", "i", "a"), ("times", "p", "a", "i"), ("times", "q", "i", "a")]
        rows = "1, m^-1.s, s, m^-1, m^-1.s^2, 1"
        columns = "1, m, s, s^2, m.s^-1, 1"
        self.assertEqual(after(start, ("form", "p"), ("form", "q")), [f"{rows} by {rows}", f"{columns} by {columns}"])
        for shown in after(start, ("show", "p"), ("show", "q")):
            numbers = [[cell.split("[")[0] for cell in row.split(", ")] for row in shown.split("; ")]
            self.assertEqual(numbers, [["1" if i == j else "0" for j in range(6)] for i in range(6)])

    def test_measures(self):
        start = METRES + [("enter", "a", "1[m], 2[s]; 3[m^2], 4[m.s]")]
        # of a: rows m, m^2 and columns 1, m/s; so rows 1/m, 1/s and columns 1, m
        self.assertEqual(after(start, ("inverse", "i", "a"), ("form", "i"), ("show", "i")),
                         [0, "m^-1, s^-1 by 1, m", "-2[m^-1], 1[m^-2]; 3/2[s^-1], -1/2[m^-1.s^-1]"])

    def test_no_inverse(self):
        for text in ["0[1]", "0[m]", "1, 2; 2, 4", "0[1], 0[1]; 0[1], 0[1]", "1[m], 2[s]; 2[m], 4[s]", "0[1], 1; 0[1], 2",
                     "1, 2, 3; 4, 5, 6; 7, 8, 9", ";".join([",".join(["1"] * 6)] * 6)]:
            self.assertEqual(self.inverse(text), [-11, -8], text)

    def test_not_square(self):
        for text in ["1, 2", "1; 2", "0[1], 0[1]", "0[1]; 0[1]", "1, 0[1]; 0, 1; 0, 0[1]"]:
            self.assertEqual(self.inverse(text), [-13, -8], text)

    def triangle(self, p, q):
        """1, p; 0, q, whose inverse has -p/q in its upper right"""
        return EDGES + above("a", p, q) + [
            ("enter", "end", "0, 1"), ("times", "a", "a", "end"), ("enter", "corner", "1, 0; 0, 0"),
            ("add", "a", "a", "corner")]

    def test_entries_at_ten_to_the_two_hundredth(self):
        self.assertEqual(after(self.triangle("p", "q"), ("inverse", "a", "a"), ("reduce", "a", "a")), [-7, (0, 2)])
        self.assertEqual(after(self.triangle("p_less", "q_less"), ("inverse", "a", "a"), ("show", "a")),
                         [0, f"1, -{'9' * 200}; 0[1], 1{'0' * 99}1"])

    def test_denominators_at_ten_to_the_two_hundredth(self):
        self.assertEqual(after(self.triangle("q", "p"), ("inverse", "a", "a")), [-7])
        self.assertEqual(after(self.triangle("q_less", "p_less"), ("inverse", "a", "a"), ("show", "a")),
                         [0, f"1, -1/{'9' * 200}; 0[1], 1/{NINES}"])

    def test_far_rows(self):
        for power, answer in [(9, [0, "m^990, m^999 by 1, 1"]), (10, [-7, -8])]:
            start = METRES + [("enter", "a", f"1, 1[m^-{power}]; 1, 2[m^-{power}]")]
            start += [("scale", "a", "a", "1[m^-99]")] * 10
            self.assertEqual(after(start, ("inverse", "i", "a"), ("form", "i")), answer)

    def test_onto_itself(self):
        start = METRES + [("enter", "a", "1[m], 2[s]; 3[km], 0")]
        self.assertEqual(after(start, ("inverse", "a", "a"), ("show", "a"), ("inverse", "a", "a"), ("show", "a"), ("all",)),
                         [0, "0[m^-1], 1/3000[m^-1]; 1/2[s^-1], -1/6000[s^-1]", 0, "1[m], 2[s]; 3000[m], 0[s]", "a"])

    def test_refused_leaves_what_was_held(self):
        start = METRES + [("enter", "a", "1, 2; 2, 4"), ("enter", "b", "1, 2"), ("enter", "c", "7[m]")]
        self.assertEqual(after(start, ("inverse", "c", "a"), ("inverse", "a", "a"), ("inverse", "c", "b"), ("show", "a"),
                               ("show", "c"), ("all",)), [-11, -11, -13, "1, 2; 2, 4", "7[m]", "a b c"])


class Reduce(unittest.TestCase):
    def reduce(self, text):
        return after(METRES, ("enter", "a", text), ("reduce", "r", "a"), ("show", "r"))[1:]

    def test_forms(self):
        for text, rank, shown in [
            ("5", 1, "1"), ("0[1]", 0, "0[1]"), ("1, 2; 3, 4", 2, "1, 0[1]; 0[1], 1"),
            ("1, 2, 3; 2, 4, 6", 1, "1, 2, 3; 0[1], 0[1], 0[1]"),
            ("1, 2, 3; 4, 5, 6; 7, 8, 9", 2, "1, 0[1], -1; 0[1], 1, 2; 0[1], 0[1], 0[1]"),
            ("2, 3", 1, "1, 3/2"), ("2; 3", 1, "1; 0[1]"), ("1/2, 1/3; 1/4, 1/5", 2, "1, 0[1]; 0[1], 1"),
            ("1, 1, 2, 3; 1, 1, 4, 7; 2, 2, 6, 11", 3, "1, 1, 0[1], 0[1]; 0[1], 0[1], 1, 0[1]; 0[1], 0[1], 0[1], 1"),
        ]:
            self.assertEqual(self.reduce(text), [(0, rank), shown], text)

    def test_first_pivot_not_in_the_first_row(self):
        self.assertEqual(self.reduce("0[1], 2, 4; 3, 3, 3"), [(0, 2), "1, 0[1], -1; 0[1], 1, 2"])
        self.assertEqual(self.reduce("0[1], 0[1]; 0[1], 0[1]; 2, 6"), [(0, 1), "1, 3; 0[1], 0[1]; 0[1], 0[1]"])
        self.assertEqual(self.reduce("0[1]; 0[1]; 0[1]; 0[1]; 0[1]; -7"), [(0, 1), "1" + "; 0[1]" * 5])

    def test_columns_without_pivots(self):
        self.assertEqual(self.reduce("0[1], 0[1], 2; 0[1], 0[1], 3"), [(0, 1), "0[1], 0[1], 1; 0[1], 0[1], 0[1]"])
        self.assertEqual(self.reduce("0[1], 2, 4, 0[1], 1; 0[1], 1, 2, 0[1], 2"),
                         [(0, 2), "0[1], 1, 2, 0[1], 0[1]; 0[1], 0[1], 0[1], 0[1], 1"])

    def test_ranks(self):
        start = [("enter", "l", "; ".join(", ".join(str((i + 2) ** j) for j in range(6)) for i in range(6)))]
        for rank in range(7):
            text = diagonal(["3/7"] * rank + ["0"] * (6 - rank))
            one = "; ".join(", ".join("1" if i == j else "0[1]" for j in range(6)) if i < rank else
                            ", ".join(["0[1]"] * 6) for i in range(6))
            given = after(start + [("enter", "a", text)], ("reduce", "r", "a"), ("show", "r"), ("times", "a", "l", "a"),
                          ("reduce", "r", "a"), ("show", "r"), ("turn", "a", "a"), ("times", "a", "l", "a"),
                          ("reduce", "r", "a"))
            self.assertEqual(given, [(0, rank), one, 0, (0, rank), one, 0, 0, (0, rank)])

    def test_measures(self):
        start = METRES + [("enter", "a", "1[m], 2[s]; 3[km], 0")]
        self.assertEqual(after(start, ("reduce", "r", "a"), ("form", "r"), ("show", "r")),
                         [(0, 2), "1, m.s^-1 by 1, m.s^-1", "1, 0[m^-1.s]; 0[m.s^-1], 1"])

    def test_measures_of_rows_behind(self):
        start = METRES + [("enter", "a", "0[m], 2[s]; 0[m], 4[s]; 0[m^3], 6[m^2.s]")]
        self.assertEqual(after(start, ("reduce", "r", "a"), ("form", "r"), ("show", "r")),
                         [(0, 1), "m.s^-1, 1, 1 by 1, m.s^-1", "0[m.s^-1], 1; 0[1], 0[m^-1.s]; 0[1], 0[m^-1.s]"])

    def test_zeros_alone(self):
        start = METRES + [("enter", "a", "0[m], 0[s]; 0[km^2], 0")]
        self.assertEqual(after(start, ("reduce", "r", "a"), ("form", "r"), ("show", "r")),
                         [(0, 0), "1, 1 by 1, m.s^-1", "0[1], 0[m^-1.s]; 0[1], 0[m^-1.s]"])
        self.assertEqual(run(("enter", "a", "0, 0, 0, 0, 0, 0"), ("reduce", "a", "a"), ("show", "a")),
                         [0, (0, 0), "0[1]" + ", 0[1]" * 5])

    def test_entries_at_ten_to_the_two_hundredth(self):
        self.assertEqual(after(EDGES + beside("a", "q", "p"), ("reduce", "r", "a"), ("show", "r")), [-7, -8])
        self.assertEqual(after(EDGES + beside("a", "p", "q"), ("reduce", "r", "a"), ("show", "r")), [-7, -8])
        self.assertEqual(after(EDGES + beside("a", "q_less", "p_less"), ("reduce", "r", "a"), ("show", "r")),
                         [(0, 1), "1, " + "9" * 200])
        self.assertEqual(after(EDGES + beside("a", "p_less", "q_less"), ("reduce", "r", "a"), ("show", "r")),
                         [(0, 1), "1, 1/" + "9" * 200])

    def test_far_only_on_the_way(self):
        self.assertEqual(after(large("a", "1, 2, 3; 4, 5, 6; 7, 8, 10"), ("reduce", "r", "a"), ("show", "r")),
                         [(0, 3), "1, 0[1], 0[1]; 0[1], 1, 0[1]; 0[1], 0[1], 1"])

    def test_onto_itself(self):
        self.assertEqual(run(("enter", "a", "2, 4"), ("reduce", "a", "a"), ("show", "a"), ("reduce", "a", "a"),
                             ("show", "a")), [0, (0, 1), "1, 2", (0, 1), "1, 2"])

    def test_refused_leaves_what_was_held(self):
        start = EDGES + beside("a", "q", "p") + [("enter", "r", "5")]
        self.assertEqual(after(start, ("reduce", "r", "a"), ("show", "r"), ("det", "r")), [-7, "5", "5"])


class Kernel(unittest.TestCase):
    def kernel(self, text):
        return after(METRES, ("enter", "a", text), ("kernel", "k", "a"), ("show", "k"))[1:]

    def test_kernels(self):
        for text, count, shown in [
            ("1, 2, 3; 2, 4, 6", 2, "-2, -3; 1, 0[1]; 0[1], 1"), ("1, 2", 1, "-2; 1"), ("0[1]", 1, "1"),
            ("1, 2, 3; 4, 5, 6; 7, 8, 9", 1, "1; -2; 1"), ("0[1], 3", 1, "1; 0[1]"),
            ("2, 3; 4, 6; 6, 9", 1, "-3/2; 1"),
            ("0[1], 1, 2, 0[1], 3; 0[1], 0[1], 0[1], 1, 4", 3,
             "1, 0[1], 0[1]; 0[1], -2, -3; 0[1], 1, 0[1]; 0[1], 0[1], -4; 0[1], 0[1], 1"),
            ("1, 2, 3, 4, 5, 6", 5, "-2, -3, -4, -5, -6; 1, 0[1], 0[1], 0[1], 0[1]; 0[1], 1, 0[1], 0[1], 0[1]; "
             "0[1], 0[1], 1, 0[1], 0[1]; 0[1], 0[1], 0[1], 1, 0[1]; 0[1], 0[1], 0[1], 0[1], 1"),
        ]:
            self.assertEqual(self.kernel(text), [(0, count), shown], text)

    def test_no_column(self):
        for text in ["5", "1, 2; 3, 4", "1; 2", "1[m]; 2[s]; 0[1]", "1[m], 2[s]; 3[km], 0"]:
            self.assertEqual(self.kernel(text), [(0, 0), -8], text)
            start = METRES + [("enter", "a", text), ("enter", "k", "7[m]"), ("enter", "z", "1")]
            self.assertEqual(after(start, ("kernel", "k", "a"), ("show", "k"), ("kernel", "a", "a"), ("same", "a", "a"),
                                   ("all",)), [(0, 0), "7[m]", (0, 0), 1, "a k z"], text)
        self.assertEqual(run(("enter", "a", diagonal([1, 2, 3, 4, 5, 6])), ("kernel", "k", "a"), ("all",)),
                         [0, (0, 0), "a"])

    def test_as_many_columns_as_a(self):
        start = METRES + [("enter", "a", "0[m], 0[s]; 0[km^2], 0; 0[1], 0")]
        self.assertEqual(after(start, ("kernel", "k", "a"), ("show", "k"), ("form", "k")),
                         [(0, 2), "1, 0[m^-1.s]; 0[m.s^-1], 1", "1, m.s^-1 by 1, m.s^-1"])
        text = ", ".join(["0"] * 6)
        self.assertEqual(run(("enter", "a", text), ("kernel", "k", "a"), ("det", "k"), ("enter", "o", diagonal([1] * 6)),
                             ("same", "o", "k")), [0, (0, 6), "1", 0, 1])

    def test_measures(self):
        # a's columns are 1, m/s, m; the kernel's belong to m/s and m, by the first of which all are divided
        start = METRES + [("enter", "a", "1[m], 2[s], 3")]
        self.assertEqual(after(start, ("kernel", "k", "a"), ("form", "k"), ("show", "k"), ("times", "z", "a", "k"),
                               ("show", "z")),
                         [(0, 2), "m^-1.s, 1, s by 1, s", "-2[m^-1.s], -3[m^-1]; 1, 0[s^-1]; 0[s], 1",
                          0, "0[s], 0[1]"])

    def test_times_kernel_is_zero(self):
        # half of the rows of SIX, so half of its columns have no pivot
        start = METRES + [("enter", "a", "; ".join(SIX.split("; ")[:3]))]
        given = after(start, ("kernel", "k", "a"), ("times", "z", "a", "k"), ("reduce", "z", "z"), ("turn", "k", "k"),
                      ("reduce", "k", "k"))
        self.assertEqual(given, [(0, 3), 0, (0, 0), 0, (0, 3)])

    def test_entries_at_ten_to_the_two_hundredth(self):
        self.assertEqual(after(EDGES + beside("a", "q", "p"), ("kernel", "k", "a"), ("show", "k")), [-7, -8])
        self.assertEqual(after(EDGES + beside("a", "p", "q"), ("kernel", "k", "a"), ("show", "k")), [-7, -8])
        self.assertEqual(after(EDGES + beside("a", "q_less", "p_less"), ("kernel", "k", "a"), ("show", "k")),
                         [(0, 1), "-" + "9" * 200 + "; 1"])
        self.assertEqual(after(EDGES + beside("a", "p_less", "q_less"), ("kernel", "k", "a"), ("show", "k")),
                         [(0, 1), "-1/" + "9" * 200 + "; 1"])

    def test_full(self):
        start = fill(19) + [("enter", "a", "1, 2")]
        self.assertEqual(after(start, ("kernel", "k", "a"), ("kernel", "k", "f0"), ("kernel", "f0", "f1"), ("show", "f0"),
                               ("kernel", "f0", "a"), ("show", "f0")), [-3, -3, (0, 0), "1", (0, 1), "-2; 1"])

    def test_onto_itself(self):
        self.assertEqual(run(("enter", "a", "1, 2, 3"), ("kernel", "a", "a"), ("show", "a"), ("kernel", "a", "a"),
                             ("show", "a")), [0, (0, 2), "-2, -3; 1, 0[1]; 0[1], 1", (0, 0), "-2, -3; 1, 0[1]; 0[1], 1"])

    def test_refused_leaves_what_was_held(self):
        start = EDGES + beside("a", "q", "p") + [("enter", "k", "5")]
        self.assertEqual(after(start, ("kernel", "k", "a"), ("show", "k"), ("kernel", "k", "x"), ("kernel", "K", "a"),
                               ("show", "k")), [-7, "5", -8, -1, "5"])


class Solve(unittest.TestCase):
    def solve(self, a, b):
        return after(METRES, ("enter", "a", a), ("enter", "b", b), ("solve", "x", "a", "b"), ("show", "x"))[2:]

    def test_just_one(self):
        for a, b, shown in [
            ("2", "6", "3"), ("1, 2; 3, 4", "5; 6", "-4; 9/2"), ("1; 2", "3; 6", "3"), ("0[1], 1; 1, 0[1]", "3; 4", "4; 3"),
            ("1, 1; 1, -1; 2, 0[1]", "3; 1; 4", "2; 1"), ("1/2, 1/3; 1/4, 1/5", "1; 1", "-8; 15"),
            ("1, 2; 3, 4", "0[1]; 0[1]", "0[1]; 0[1]"),
        ]:
            self.assertEqual(self.solve(a, b), [(0, 0), shown], (a, b))

    def test_more_than_one(self):
        for a, b, count, shown in [
            ("1, 2, 3; 2, 4, 6", "1; 2", 2, "1; 0[1]; 0[1]"), ("0[1], 2", "6", 1, "0[1]; 3"), ("0[1]", "0[1]", 1, "0[1]"),
            ("0[1], 2, 4, 1; 0[1], 1, 2, 1", "5; 4", 2, "0[1]; 1; 0[1]; 3"), ("2, 3, 4, 5, 6, 7", "8", 5, "4" + "; 0[1]" * 5),
            ("0[1], 0[1], 0[1]", "0[1]", 3, "0[1]; 0[1]; 0[1]"),
        ]:
            self.assertEqual(self.solve(a, b), [(0, count), shown], (a, b))

    def test_none(self):
        for a, b in [("1, 2; 2, 4", "1; 3"), ("0[1]", "1"), ("1; 2", "3; 7"), ("1, 2, 3; 2, 4, 6", "1; 0[1]"),
                     ("1, 1; 1, -1; 2, 0[1]", "3; 1; 5"), ("1, 2; 2, 4", "1, 1; 2, 3"), ("1, 2; 2, 4", "1, 1; 3, 2"),
                     ("0[m], 0[s]", "1[m]")]:
            self.assertEqual(self.solve(a, b), [(1, 0), -8], (a, b))

    def test_none_leaves_what_was_held(self):
        start = METRES + [("enter", "a", "1, 2; 2, 4"), ("enter", "b", "1; 3"), ("enter", "x", "7[m]")]
        self.assertEqual(after(start, ("solve", "x", "a", "b"), ("show", "x"), ("solve", "a", "a", "b"), ("show", "a"),
                               ("solve", "b", "a", "b"), ("show", "b"), ("solve", "y", "a", "b"), ("all",)),
                         [(1, 0), "7[m]", (1, 0), "1, 2; 2, 4", (1, 0), "1; 3", (1, 0), "a b x"])

    def test_more_columns(self):
        self.assertEqual(self.solve("1, 2; 3, 4", "5, 1, 0[1]; 6, 0[1], 1"), [(0, 0), "-4, -2, 1; 9/2, 3/2, -1/2"])
        self.assertEqual(self.solve("1, 2; 2, 4", "1, 3; 2, 6"), [(0, 1), "1, 3; 0[1], 0[1]"])
        self.assertEqual(self.solve("2", "2, 4, 6, 8, 10, 12"), [(0, 0), "1, 2, 3, 4, 5, 6"])

    def test_six_rows(self):
        text = "; ".join(", ".join(str(i * 6 - j) for j in range(6)) for i in range(6))
        start = [("enter", "a", HILBERT), ("enter", "x", text)]
        self.assertEqual(after(start, ("times", "b", "a", "x"), ("solve", "y", "a", "b"), ("same", "x", "y")),
                         [0, (0, 0), 1])
        start = METRES + [("enter", "a", SIX), ("scale", "b", "a", "3[km]")]
        given = after(start, ("solve", "x", "a", "b"), ("form", "x"), ("times", "c", "a", "x"), ("same", "b", "c"),
                      ("poly", "x"))
        form = "m, m^2, m.s, m.s^2, m^2.s^-1, m by 1, m, s, s^2, m.s^-1, 1"
        numbers = ["1"] + [f"{number * (-3000) ** k}[m{power}]" for k, number, power in
                           [(1, 6, ""), (2, 15, "^2"), (3, 20, "^3"), (4, 15, "^4"), (5, 6, "^5"), (6, 1, "^6")]]
        self.assertEqual(given, [(0, 0), form, 0, 1, ", ".join(numbers)])

    def test_measures(self):
        # a's rows are m, m and its columns 1, m/s; b's rows m.s, m.s and its columns 1, s: h is s
        start = METRES + [("enter", "a", "1[m], 2[s]; 3[km], 0"), ("enter", "b", "5[m.s], 4[m]; 6[km.s], 0[m]")]
        self.assertEqual(after(start, ("solve", "x", "a", "b"), ("form", "x"), ("show", "x"), ("times", "c", "a", "x"),
                               ("same", "b", "c")),
                         [(0, 0), "s, m by 1, s", "2[s], 0[1]; 3/2[m], 2[m.s^-1]", 0, 1])

    def test_measures_where_more_than_one(self):
        start = METRES + [("enter", "a", "0[m], 2[s]; 0[m^2], 0"), ("enter", "b", "6[1/s]; 0[m/s]")]
        self.assertEqual(after(start, ("solve", "x", "a", "b"), ("form", "x"), ("show", "x")),
                         [(0, 1), "m^-1.s^-1, s^-2 by 1", "0[m^-1.s^-1]; 3[s^-2]"])

    def test_other_shape(self):
        for a, b in [("1; 2", "1"), ("1", "1; 2"), ("1, 2", "1; 2"), ("1, 2; 3, 4", "1, 2"), ("1[m]; 1[s]", "1[s]")]:
            self.assertEqual(self.solve(a, b), [-9, -8], (a, b))

    def test_other_measures(self):
        for a, b in [("1; 1[m]", "1; 1"), ("1; 1", "1; 1[m]"), ("1; 1[m]", "1[m]; 1"), ("0[1]; 0[m]", "0[1]; 0[s]"),
                     ("1; 1; 1", "1; 1; 0[s]"), ("1, 2; 2, 4", "1; 3[s]")]:
            self.assertEqual(self.solve(a, b), [-10, -8], (a, b))
        self.assertEqual(self.solve("1; 1[m]", "2[s]; 2[m.s]"), [(0, 0), "2[s]"])

    def test_entries_at_ten_to_the_two_hundredth(self):
        for a, b, answer in [("q", "p", [-7, -8]), ("p", "q", [-7, -8]), ("q_less", "p_less", [(0, 0), "9" * 200]),
                             ("p_less", "q_less", [(0, 0), "1/" + "9" * 200])]:
            self.assertEqual(after(EDGES, ("solve", "x", a, b), ("show", "x")), answer)

    def test_none_is_ahead_of_far(self):
        start = EDGES + above("b", "p", "one") + [("enter", "zero", "0")] + above("a", "q", "zero")
        self.assertEqual(after(start, ("solve", "x", "a", "b"), ("solve", "x", "q", "p")), [(1, 0), -7])

    def test_far_rows(self):
        for power, answer in [(9, [(0, 0), "m^999 by 1"]), (10, [-7, -8])]:
            start = METRES + [("enter", "a", f"1[m^-{power}]"), ("enter", "b", "1")] + [("scale", "b", "b", "1[m^99]")] * 10
            self.assertEqual(after(start, ("solve", "x", "a", "b"), ("form", "x")), answer)
        start = METRES + [("enter", "a", "1, 1[m^-10]"), ("enter", "b", "1")] + [("scale", "b", "b", "1[m^99]")] * 10
        self.assertEqual(after(start, ("solve", "x", "a", "b"), ("scale", "b", "b", "1/1[m^-1]"), ("solve", "x", "a", "b"),
                               ("form", "x")), [-7, 0, (0, 1), "m^989, m^999 by 1"])

    def test_onto_its_parts(self):
        start = [("enter", "a", "1, 2; 3, 4"), ("enter", "b", "5; 6")]
        self.assertEqual(after(start, ("solve", "b", "a", "b"), ("show", "b"), ("show", "a"), ("solve", "a", "a", "b"),
                               ("show", "a"), ("all",)), [(0, 0), "-4; 9/2", "1, 2; 3, 4", (0, 0), "25/2; -33/4", "a b"])
        self.assertEqual(after(start, ("solve", "a", "a", "a"), ("show", "a")), [(0, 0), "1, 0[1]; 0[1], 1"])

    def test_refused_leaves_what_was_held(self):
        start = EDGES + [("enter", "x", "5"), ("enter", "y", "1; 2"), ("base", "m"), ("enter", "w", "1; 2[m]")]
        self.assertEqual(after(start, ("solve", "x", "q", "p"), ("solve", "x", "q", "y"), ("solve", "x", "y", "z"),
                               ("solve", "x", "y", "w"), ("solve", "w", "y", "w"), ("show", "x"), ("show", "w")),
                         [-7, -9, -8, -10, -10, "5", "1; 2[m]"])


if __name__ == "__main__":
    unittest.main()
