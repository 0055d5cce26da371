"""Promises 1 and 2, and the texts that they read: words, measures, fractions, quantities."""

import unittest

from calling import METRES, TEN_39, after, last, run


def many_bases(count):
    return [("base", f"b{number}") for number in range(count)]


def many_units(count):
    return [("unit", f"u{number}", "1") for number in range(count)]


class Base(unittest.TestCase):
    def test_words(self):
        for word in ["m", "a", "z", "m2", "m_", "a_1", "abcdefghijkl", "a1234567890_", "a" * 12]:
            self.assertEqual(run(("base", word)), [0], word)

    def test_no_words(self):
        for word in ["", "1", "1a", "_a", "M", "mM", "m m", " m", "m ", "a-b", "m\n", "a" * 13, "a" * 10000, "\xe4",
                     "m\x00", "m^2", "m.s", "{", "`", "a/", "a:", "a@"]:
            self.assertEqual(run(("base", word)), [-1], word)

    def test_every_byte_in_a_word(self):
        first = b"abcdefghijklmnopqrstuvwxyz"
        behind = first + b"0123456789_"
        for byte in range(256):
            self.assertEqual(run(("base", [byte])), [0 if byte in first else -1], byte)
            self.assertEqual(run(("base", [97, byte])), [0 if byte in behind else -1], byte)

    def test_twice(self):
        self.assertEqual(run(("base", "m"), ("base", "m"), ("unit", "k", "2 m"), ("base", "k")), [0, -2, 0, -2])

    def test_eight_bases(self):
        self.assertEqual(after(many_bases(8), ("base", "c"), ("unit", "c", "2 b7")), [-3, 0])

    def test_forty_entries(self):
        self.assertEqual(after(many_units(39), ("base", "c"), ("base", "d")), [0, -3])

    def test_order_of_refusals(self):
        start = many_bases(8) + many_units(32)
        self.assertEqual(after(start, ("base", "C"), ("base", "b0"), ("base", "u0"), ("base", "c")), [-1, -2, -2, -3])

    def test_order_of_bases(self):
        self.assertEqual(last(("base", "z"), ("base", "a"), ("enter", "x", "1[a.z]"), ("form", "x")), "z.a by 1")

    def test_refused_base_is_not_there(self):
        self.assertEqual(after(many_bases(8), ("base", "c"), ("unit", "k", "c"), ("unit", "c", "1")), [-3, -5, 0])


class Unit(unittest.TestCase):
    def unit(self, quantity):
        return after(METRES, ("unit", "u", quantity))[0]

    def worth(self, quantity):
        return after(METRES, ("unit", "u", quantity), ("enter", "a", "1[u]"), ("show", "a"))

    def test_worths(self):
        for quantity, shown in [
            ("2 m", "2[m]"), ("m", "1[m]"), ("1", "1"), ("7 1", "7"), ("1/2 m", "1/2[m]"), ("0.250 s", "1/4[s]"),
            ("3 km^2", "3000000[m^2]"), ("1/km", "1/1000[m^-1]"), ("1/3 1/km", "1/3000[m^-1]"),
            ("m/s.m", "1[m^2.s^-1]"), ("m/s/s", "1[m.s^-2]"), ("m/s^-2", "1[m.s^2]"), ("1.1.m.1/1", "1[m]"),
            ("km/m", "1000"), ("m^0", "1"), ("m^00", "1"), ("m^-0", "1"), ("m^05", "1[m^5]"), ("km^-1", "1/1000[m^-1]"),
            ("6/4 m", "3/2[m]"), ("007 m", "7[m]"), ("1.0 m", "1[m]"), ("s.m", "1[m.s]"), ("m^99/s^99", "1[m^99.s^-99]"),
        ]:
            self.assertEqual(self.worth(quantity), [0, 0, shown], quantity)

    def test_no_quantity_texts(self):
        for quantity in [
            "", " ", "2", "12", "1/2", "0", "-1", "2m", "2  m", " m", "m ", "2 m ", " 2 m", "2 m s", "2\tm", "m^", "^2",
            "m^-", "m^--1", "m^+1", "m^100", "m^-100", "m^001", "m^1.5", "m^1/2", "m..s", "m./s", "m/.s", "m//s", "/s",
            ".s", "m.", "m/", "1^2", "2.m", "m.2", "11", "m^2^3", "m*s", "M", "1/0 m", "1/00 m", "1/ m", "/2 m", ".5 m",
            "5. m", "+5 m", "--5 m", "5/-3 m", "1.5/2 m", "1/2.5 m", "1.2.3 m", "1/2/3 m", "- m", "1e3 m", "m,s", "2 ",
            "m" * 13, "2 [m]", "m[1]", "1_0 m", "\xb2 m", "m\n", "m^\xb2",
        ]:
            self.assertEqual(self.unit(quantity), -4, quantity)

    def test_twenty_factors(self):
        self.assertEqual(self.worth(".".join(["m"] * 20)), [0, 0, "1[m^20]"])
        self.assertEqual(self.unit(".".join(["m"] * 21)), -4)
        self.assertEqual(self.worth("/".join(["1"] * 19 + ["s"])), [0, 0, "1[s^-1]"])
        self.assertEqual(self.unit(".".join(["1"] * 21)), -4)
        self.assertEqual(self.unit("/".join(["1"] * 20 + ["s"])), -4)

    def test_ninety_signs(self):
        self.assertEqual(self.worth("0" * 89 + "5 m"), [0, 0, "5[m]"])
        self.assertEqual(self.unit("0" * 90 + "5 m"), -4)
        self.assertEqual(self.worth("5." + "0" * 88 + " m"), [0, 0, "5[m]"])
        self.assertEqual(self.unit("5." + "0" * 89 + " m"), -4)
        self.assertEqual(self.worth("2" + "0" * 43 + "/1" + "0" * 44 + " m"), [0, 0, "1/5[m]"])
        self.assertEqual(self.unit("2" + "0" * 44 + "/1" + "0" * 44 + " m"), -4)
        self.assertEqual(self.unit("-" + "0" * 88 + "5 m"), -6)
        self.assertEqual(self.unit("-" + "0" * 89 + "5 m"), -4)

    def test_numbers_at_ten_to_the_fortieth(self):
        self.assertEqual(self.unit("9" * 40 + " m"), 0)
        self.assertEqual(self.unit(TEN_39 + "0 m"), -4)
        self.assertEqual(self.unit("1/" + "9" * 40 + " m"), 0)
        self.assertEqual(self.unit("1/" + TEN_39 + "0 m"), -4)
        self.assertEqual(self.unit("2/" + TEN_39 + "0 m"), 0)
        self.assertEqual(self.unit(TEN_39 + "0/10 m"), 0)
        self.assertEqual(self.unit("0." + "0" * 38 + "1 m"), 0)
        self.assertEqual(self.unit("0." + "0" * 39 + "1 m"), -4)
        self.assertEqual(self.unit("-" + TEN_39 + "0 m"), -4)
        self.assertEqual(self.unit("-" + "9" * 40 + " m"), -6)

    def test_quantities_of_five_hundred_bytes(self):
        factor = "/a23456789012^-99"
        longest = "0" * 89 + "1 " + "a23456789012^-99" + factor * 19
        start = [("unit", "a23456789012", "1")]
        self.assertEqual(len(longest), 430)
        self.assertEqual(after(start, ("unit", "u", longest)), [0])
        for size in [431, 500, 501, 10000]:
            self.assertEqual(after(start, ("unit", "u", longest.rjust(size, "0"))), [-4], size)
            self.assertEqual(after(start, ("unit", "u", longest.ljust(size))), [-4], size)

    def test_number_above_zero(self):
        for quantity in ["0 m", "-1 m", "-0 m", "0.00 m", "0/3 m", "-1/2 m", "0 x", "-5 x"]:
            self.assertEqual(self.unit(quantity), -6, quantity)

    def test_unknown_words(self):
        for quantity in ["x", "2 m.x", "x^0", "u", "u/u", "m/x.s", "m^99.m^99.x", "k"]:
            self.assertEqual(self.unit(quantity), -5, quantity)

    def test_ratio_at_ten_to_the_fortieth(self):
        start = [("base", "m"), ("unit", "big", TEN_39 + " m"), ("unit", "ten", "10 1"),
                 ("unit", "small", "1/" + TEN_39 + " 1")]
        for quantity, answer in [
            ("9 big", 0), ("10 big", -7), ("big.ten", -7), ("ten.small", 0), ("1/ten.small", -7), ("1/10 small", -7), ("small/ten", -7),
            ("big.ten/ten", 0), ("10/3 big", -7), ("1/3 big.ten", -7), ("big^2/big", 0), ("big^99/big^98", 0),
            ("big^2", -7), ("small^-1", 0), ("small^-2", -7), ("big.ten^50/ten^50", 0), ("1/10 big.ten", 0),
            ("ten^39", 0), ("ten^40", -7), ("ten^-39", 0), ("ten^-40", -7),
        ]:
            self.assertEqual(after(start, ("unit", "u", quantity)), [answer], quantity)

    def test_slowly_reduced_ratio(self):
        fibonacci = [1, 1]
        while fibonacci[-1] < 10 ** 40:
            fibonacci.append(fibonacci[-1] + fibonacci[-2])
        for one, other in [(-2, -3), (-3, -2)]:
            quantity = f"{fibonacci[one]}/{fibonacci[other]} 1"
            self.assertEqual(self.worth(quantity), [0, 0, quantity[:-2]])
        self.assertEqual(self.unit(f"{fibonacci[-1]}/{fibonacci[-2]} 1"), -4)
        self.assertEqual(self.unit(f"{fibonacci[-2]}/{fibonacci[-1]} 1"), -4)

    def test_far_walk_that_comes_back(self):
        start = [("unit", f"k{number}", "9" * 39 + f"{number}/" + "7" * 40 + " 1") for number in range(1, 10)]
        up = ".".join(f"k{number}^99" for number in range(1, 10))
        back = "".join(f"/k{number}^99" for number in range(1, 10))
        self.assertEqual(after(start, ("unit", "u", up + back), ("unit", "v", up + back + ".k1"), ("unit", "w", up)),
                         [0, 0, -7])
        self.assertEqual(after(start, ("unit", "u", up + back), ("enter", "a", "1[u]"), ("show", "a"))[-1], "1")

    def test_powers_at_ninety_nine(self):
        for quantity, answer in [
            ("m^99", 0), ("m^-99", 0), ("m^99.m", -7), ("m^-99/m", -7), ("m^99.m/m", 0), ("m^50.m^50", -7),
            ("s^99.m^99", 0), ("s^99.s", -7), ("m^-50/m^50", -7), ("km^13", 0), ("km^14", -7),
        ]:
            self.assertEqual(self.unit(quantity), answer, quantity)
        start = METRES + [("unit", "v", "m^33/s^33")]
        for quantity, answer in [("v^3", 0), ("v^-3", 0), ("v^3.m", -7), ("v^3/m", 0), ("v^3/s", -7), ("v^4", -7)]:
            self.assertEqual(after(start, ("unit", "u", quantity)), [answer], quantity)

    def test_names(self):
        self.assertEqual(after(METRES, ("unit", "", "m"), ("unit", "1", "m"), ("unit", "a" * 12, "m"),
                               ("unit", "a" * 13, "m"), ("unit", "m", "s"), ("unit", "km", "s")),
                         [-1, -1, 0, -1, -2, -2])

    def test_forty_entries(self):
        self.assertEqual(after(many_units(39), ("unit", "c", "u38"), ("unit", "d", "c")), [0, -3])

    def test_order_of_refusals(self):
        full = [("base", "m")] + many_units(39)
        self.assertEqual(after(full, ("unit", "C", "!"), ("unit", "m", "!"), ("unit", "c", "!")), [-1, -2, -3])
        self.assertEqual(after(METRES, ("unit", "c", "0 x!"), ("unit", "c", "0 x"), ("unit", "c", "x.m^99.m"),
                               ("unit", "c", "m^99.m")), [-4, -6, -5, -7])

    def test_refused_unit_is_not_there(self):
        self.assertEqual(after(METRES, ("unit", "u", "0 m"), ("unit", "v", "u"), ("unit", "u", "m"), ("unit", "v", "u")),
                         [-6, -5, 0, 0])


if __name__ == "__main__":
    unittest.main()
