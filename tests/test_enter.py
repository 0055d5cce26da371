"""Promise 3: matrix texts, and the measures of rows and columns that are found from them."""

import unittest

from calling import METRES, TEN_39, after, fill, last, run


def staircase(last_cell):
    """Each row's measure is m^99 above its column's, and each column's m^99 above the row's before it."""
    rows = []
    for i in range(6):
        cells = ["0"] * 6
        cells[i] = "1[m^99]" if i < 5 else last_cell
        if i < 5:
            cells[i + 1] = "1[m^-99]"
        rows.append(", ".join(cells))
    return "; ".join(rows)


class Enter(unittest.TestCase):
    def enter(self, text):
        return after(METRES, ("enter", "a", text))[0]

    def shown(self, text):
        return after(METRES, ("enter", "a", text), ("show", "a"), ("form", "a"))

    def test_document(self):
        self.assertEqual(self.shown("1[m], 2[s]; 3[km], 0"),
                         [0, "1[m], 2[s]; 3000[m], 0[s]", "m, m by 1, m.s^-1"])
        self.assertEqual(self.enter("1, 0; 0, 1"), -12)
        self.assertEqual(self.enter("1, 0[1]; 0, 1"), 0)
        self.assertEqual(run(("enter", "d", "1, 0; 0, 1"), ("show", "d")), [0, "1, 0[1]; 0[1], 1"])

    def test_cells(self):
        for text, shown in [
            ("1", "1"), ("-1", "-1"), ("0[1]", "0[1]"), ("0[m]", "0[m]"), ("-0[m]", "0[m]"), ("-6/4[s]", "-3/2[s]"),
            ("1.50", "3/2"), ("  2[m]  ", "2[m]"), ("1/3[km^2/s]", "1000000/3[m^2.s^-1]"), ("1[1]", "1"),
            ("5[km/m]", "5000"), ("2[m^0]", "2"), ("00012", "12"), ("-0.5[1/km]", "-1/2000[m^-1]"), ("0[m/m]", "0[1]"),
        ]:
            self.assertEqual(self.shown(text)[:2], [0, shown], text)

    def test_no_matrix_texts(self):
        for text in [
            "", " ", ";", ",", "1;", "1,", ",1", ";1", "1,,2", "1;;2", "1, 2; 3", "1; 2, 3", "1 [m]", "1[m] [s]", "1[m",
            "1m]", "[m]", "m", "1[]", "1[m]]", "1[[m]]", "1[m][s]", "1[ m]", "1[m ]", "1 2", "- 1", "1/0", "1/", "1.",
            "1[2 m]", "1[2]", "1[m;s]", "1[m,s]", "1\t", "\n1", "1[M]", "x", "1[m^100]", "1[m^]", "\xa01", "1[m]x",
            "1[/m]", "]", "[", "1]", "1[", "1" * 41, "0" * 91, "1[" + ".".join(["m"] * 21) + "]", "1\x00", "1?", "?",
        ]:
            self.assertEqual(self.enter(text), -4, text)

    def test_four_thousand_bytes(self):
        for text in ["1[m]", "1,2;3,4"]:
            self.assertEqual(self.enter(text.ljust(4000)), 0)
            self.assertEqual(self.enter(text.ljust(4001)), -4)
            self.assertEqual(self.enter(text.rjust(4000)), 0)
            self.assertEqual(self.enter(text.rjust(4001)), -4)

    def test_rows_and_cells(self):
        self.assertEqual(self.enter(", ".join(["1"] * 6)), 0)
        self.assertEqual(self.enter(", ".join(["1"] * 7)), -4)
        self.assertEqual(self.enter("; ".join(["1"] * 6)), 0)
        self.assertEqual(self.enter("; ".join(["1"] * 7)), -4)
        self.assertEqual(self.enter(";".join([",".join(["1"] * 6)] * 6)), 0)
        self.assertEqual(self.enter(";".join([",".join(["1"] * 6)] * 5 + [",".join(["1"] * 5)])), -4)
        self.assertEqual(self.enter(";".join([",".join(["1"] * 6)] * 5 + [",".join(["1"] * 7)])), -4)

    def test_fractions_at_their_edges(self):
        self.assertEqual(self.shown("0" * 89 + "5")[:2], [0, "5"])
        self.assertEqual(self.enter("0" * 90 + "5"), -4)
        self.assertEqual(self.enter("-" + "9" * 40 + "/" + "7" * 40), 0)
        self.assertEqual(self.enter(TEN_39 + "0"), -4)
        self.assertEqual(self.enter("1/" + TEN_39 + "0"), -4)
        self.assertEqual(self.enter("1," + TEN_39 + "0"), -4)

    def test_only_the_measure_may_be_too_far(self):
        start = [("base", "m"), ("unit", "big", TEN_39 + " m")]
        self.assertEqual(after(start, ("enter", "a", "9" * 40 + "[big]"), ("show", "a")),
                         [0, "9" * 40 + "0" * 39 + "[m]"])
        self.assertEqual(after(start, ("enter", "a", "1/" + TEN_39 + "[big^2]")), [-7])
        self.assertEqual(after(start, ("enter", "a", "0[big^2]")), [-7])

    def test_far_worths(self):
        for text, answer in [("1[m^99]", 0), ("1[m^-99]", 0), ("1[m^99.m]", -7), ("0[m^-99/m]", -7), ("1[km^13]", 0),
                             ("1[km^14]", -7), ("1[km^-13]", 0), ("1[km^-14]", -7)]:
            self.assertEqual(self.enter(text), answer, text)

    def test_first_bad_measure_counts(self):
        self.assertEqual(self.enter("1[x]"), -5)
        self.assertEqual(self.enter("0[x^0]"), -5)
        self.assertEqual(self.enter("1[x], 1[m^99.m]"), -5)
        self.assertEqual(self.enter("1[m^99.m], 1[x]"), -7)
        self.assertEqual(self.enter("1, 1[m^99.m]; 1[x], 1"), -7)
        self.assertEqual(self.enter("1, 1; 1[x], 1[m^99.m]"), -5)
        self.assertEqual(self.enter("1[m^99.m.x]"), -5)

    def test_no_measures(self):
        for text in ["1[m], 1; 1, 1", "1, 1; 1, 1[s]", "1, 1; 1, 0[s]", "1[m], 1[s]; 1[s], 1[m]",
                     "1[m], 1[s], 0; 1[m], 1[m], 0; 0, 0, 1"]:
            self.assertEqual(self.enter(text), -10, text)

    def test_measures(self):
        for text, form in [
            ("1[m], 1[s]; 1[m^2], 1[m.s]", "m, m^2 by 1, m.s^-1"),
            ("1, 1; 1, 1", "1, 1 by 1, 1"),
            ("1[m]; 1[s]; 0[km]", "m, s, m by 1"),
            ("1[m], 1[s], 0[1]", "m by 1, m.s^-1, m"),
            ("0, 1[s]; 1[m], 1", "m.s, m by 1, m"),
            ("0, 0[m], 1[s]; 0, 0, 2[m]; 3[s], 0, 4", "s^2, m.s, s by 1, m^-1.s^2, s"),
        ]:
            self.assertEqual(self.shown(text)[2], form, text)

    def test_zeros_take_their_measure(self):
        self.assertEqual(self.shown("1[m], 0; 0[s], 1")[1:], ["1[m], 0[m.s^-1]; 0[s], 1", "m, s by 1, s"])
        self.assertEqual(self.shown("0, -0; 1, 0[m]; 0[s], 0.0")[0], -12)

    def test_more_than_one_way(self):
        for text in ["0", "-0", "0.00", "0/7", "1, 0", "1; 0", "0, 0; 0, 0", "1, 0; 0, 1[m]", "1, 1, 0; 0, 0, 1; 1, 1, 0",
                     "1, 0; 1, 0", "1, 1; 0, 0"]:
            self.assertEqual(self.enter(text), -12, text)
            self.assertEqual(run(("unit", "m", "1"), ("enter", "a", text)), [0, 0], text)
        self.assertEqual(run(("unit", "k", "2 1"), ("enter", "a", "0[k], 3[k]; 0, 0"), ("show", "a"), ("form", "a")),
                         [0, 0, "0[1], 6; 0[1], 0[1]", "1, 1 by 1, 1"])

    def test_none_is_ahead_of_more_than_one(self):
        self.assertEqual(self.enter("1[m], 1, 0; 1, 1, 0"), -10)
        self.assertEqual(self.enter("0, 1[m], 1; 0, 1, 1"), -10)
        self.assertEqual(self.enter("0, 0; 1, 0"), -12)

    def test_rows_at_999(self):
        start = [("base", "s"), ("base", "m")]
        self.assertEqual(after(start, ("enter", "a", staircase("1[m^9]")), ("form", "a")),
                         [0, "m^99, m^297, m^495, m^693, m^891, m^999 by 1, m^198, m^396, m^594, m^792, m^990"])
        self.assertEqual(after(start, ("enter", "a", staircase("1[m^10]"))), [-7])
        self.assertEqual(after(start, ("enter", "a", staircase("0"))), [-12])
        turned = staircase("1[m^9]").replace("^-99", "^#").replace("^", "^-").replace("^-#", "^99")
        self.assertEqual(after(start, ("enter", "a", turned)), [0])
        self.assertEqual(after(start, ("enter", "a", turned.replace("^-9]", "^-10]"))), [-7])

    def test_refusals_ahead_of_far_rows(self):
        beyond = staircase("1[m^99]")
        start = [("base", "m")]
        self.assertEqual(after(start, ("enter", "a", beyond)), [-7])
        self.assertEqual(after(start, ("enter", "a", beyond.replace("0; ", "1[m]; ", 1))), [-10])

    def test_replaced(self):
        self.assertEqual(after(METRES, ("enter", "a", "1"), ("enter", "a", "2[m]"), ("show", "a")), [0, 0, "2[m]"])

    def test_refused_leaves_what_was_held(self):
        start = METRES + [("enter", "a", "7[m]")]
        for text in ["", "1[x]", "1[m^99.m]", "1[m], 1; 1, 1", "0", staircase("1[m^99]")]:
            given = after(start, ("enter", "a", text), ("show", "a"), ("enter", "b", text), ("show", "b"))
            self.assertLess(given[0], 0)
            self.assertEqual(given[1:], ["7[m]", given[0], -8], text)

    def test_naming_comes_first(self):
        start = METRES + fill(20)
        self.assertEqual(after(start, ("enter", "A", ""), ("enter", "a", ""), ("enter", "f0", "")), [-1, -3, -4])
        self.assertEqual(after(METRES, ("enter", "a", "1[m^99.m]; 1[x"), ("enter", "a", "1[m^99.m]; 1[x], 1")), [-4, -4])

    def test_names_of_measures_and_matrices_apart(self):
        self.assertEqual(last(("base", "m"), ("enter", "m", "1[m]"), ("base", "x"), ("enter", "x", "1[x]"),
                              ("show", "m")), "1[m]")


if __name__ == "__main__":
    unittest.main()
