"""Promises 17 to 19: same, drop and all; and the order of names."""

import unittest

from calling import METRES, after, fill, run


class Same(unittest.TestCase):
    def same(self, a, b):
        given = after(METRES + [("enter", "a", a), ("enter", "b", b)], ("same", "a", "b"), ("same", "b", "a"))
        self.assertEqual(given[0], given[1])
        return given[0]

    def test_other_texts(self):
        for a, b in [("1", "1"), ("1[km], 0.5", "1000[m], 2/4[1]"), ("1, 0; 0[1], 1[m/m]", " 3/3 ,0[1];-0 , 1.00"),
                     ("0[m]", "-0[km]"), ("1[m/s]", "1[s^-1.m]"), ("1/1000[km]", "1[m]"),
                     ("1[m], 2[s]; 3[km], 0", "001[m], 2[1/s^-1]; 3000[m], 0.0[s]")]:
            self.assertEqual(self.same(a, b), 1, (a, b))

    def test_itself(self):
        start = METRES + [("enter", "a", "1[m], 2[s]; 3[km], 0")]
        self.assertEqual(after(start, ("same", "a", "a"), ("power", 1, "b", "a"), ("same", "a", "b")), [1, 0, 1])

    def test_one_entry(self):
        for a, b in [("1", "2"), ("1", "-1"), ("1/2", "1/3"), ("1, 2; 3, 4", "1, 2; 3, 5"), ("1, 2; 3, 4", "0[1], 2; 3, 4"),
                     ("1[m]", "1[km]"), ("2/3", "3/2"), ("9" * 40, "9" * 39 + "8")]:
            self.assertEqual(self.same(a, b), 0, (a, b))

    def test_one_measure(self):
        for a, b in [("1[m]", "1[s]"), ("1", "1[m]"), ("0[1]", "0[m]"), ("0[m]", "0[m^2]"), ("1, 1", "1, 1[m]"),
                     ("1; 1", "1; 1[m]"), ("1[m], 0[m]", "1[m], 0[s]"), ("1, 1; 1, 1", "1, 1[s]; 1, 1[s]")]:
            self.assertEqual(self.same(a, b), 0, (a, b))

    def test_shape_alone(self):
        for a, b in [("1", "1, 1"), ("1", "1; 1"), ("1, 1", "1; 1"), ("1, 1; 1, 1", "1, 1, 1; 1, 1, 1"),
                     ("1, 1; 1, 1", "1, 1"), ("0[1], 0[1]", "0[1]; 0[1]"), ("1, 1, 1; 1, 1, 1", "1, 1; 1, 1; 1, 1")]:
            self.assertEqual(self.same(a, b), 0, (a, b))

    def test_reckoned(self):
        start = METRES + [("enter", "a", "1[m], 2[s]; 3[km], 0"), ("inverse", "i", "a"), ("inverse", "b", "i")]
        start += [("add", "c", "a", "a"), ("scale", "c", "c", "1/2"), ("turn", "t", "a"), ("turn", "d", "t")]
        self.assertEqual(after(start, ("same", "a", "b"), ("same", "a", "c"), ("same", "a", "d"), ("same", "a", "t"),
                               ("same", "a", "i")), [1, 1, 1, 0, 0])

    def test_not_held(self):
        self.assertEqual(run(("same", "a", "a"), ("enter", "a", "1"), ("same", "a", "b"), ("same", "b", "a"),
                             ("same", "", "a"), ("same", "a", "A"), ("same", "a", "a")), [-8, 0, -8, -8, -8, -8, 1])


class Drop(unittest.TestCase):
    def test_dropped(self):
        start = METRES + [("enter", "a", "1[m]"), ("enter", "b", "2")]
        self.assertEqual(after(start, ("drop", "a"), ("show", "a"), ("form", "a"), ("det", "a"), ("turn", "c", "a"),
                               ("same", "a", "b"), ("drop", "a"), ("show", "b"), ("all",)),
                         [0, -8, -8, -8, -8, -8, -8, "2", "b"])

    def test_not_held(self):
        self.assertEqual(after(METRES + [("enter", "a", "1")], ("drop", "b"), ("drop", ""), ("drop", "A"), ("drop", "m"),
                               ("drop", "km"), ("all",), ("show", "a")), [-8] * 5 + ["a", "1"])

    def test_book_stays(self):
        self.assertEqual(after(METRES + [("enter", "m", "1[m]")], ("drop", "m"), ("base", "m"), ("enter", "a", "1[km]"),
                               ("show", "a")), [0, -2, 0, "1000[m]"])

    def test_room_for_another(self):
        self.assertEqual(after(fill(20), ("enter", "a", "1"), ("drop", "f7"), ("enter", "a", "2"), ("enter", "b", "3"),
                               ("show", "a")), [-3, 0, 0, -3, "2"])

    def test_what_was_made_of_it_stays(self):
        self.assertEqual(run(("enter", "a", "1, 2; 3, 4"), ("power", 1, "b", "a"), ("inverse", "i", "a"), ("drop", "a"),
                             ("show", "b"), ("times", "c", "b", "i"), ("det", "c")),
                         [0, 0, 0, 0, "1, 2; 3, 4", 0, "1"])


class All(unittest.TestCase):
    def test_none(self):
        self.assertEqual(run(("all",)), [""])
        self.assertEqual(after(METRES, ("all",), ("enter", "a", "x"), ("all",)), ["", -4, ""])
        self.assertEqual(run(("enter", "a", "1"), ("drop", "a"), ("all",)), [0, 0, ""])

    def test_order(self):
        start = [("enter", "z", "1"), ("enter", "a", "2"), ("enter", "m_1", "3")]
        self.assertEqual(after(start, ("all",)), ["z a m_1"])

    def test_held_anew(self):
        start = [("enter", "z", "1, 2; 3, 4"), ("enter", "a", "2, 0; 1, 1"), ("enter", "m", "3, 0; 0, 3")]
        for call in [("enter", "z", "5"), ("add", "z", "a", "m"), ("scale", "z", "a", "2"), ("times", "z", "a", "m"),
                     ("turn", "z", "m"), ("power", 2, "z", "a"), ("inverse", "z", "a"), ("reduce", "z", "m"),
                     ("solve", "z", "a", "m"), ("turn", "z", "z"), ("kernel", "z", "m")]:
            self.assertEqual(after(start, call, ("all",))[1], "z a m", call)

    def test_behind_all_others(self):
        start = [("enter", "z", "1, 2; 2, 4"), ("enter", "y", "2, 0; 1, 1")]
        for call in [("enter", "a", "5"), ("add", "a", "z", "z"), ("scale", "a", "z", "2"), ("times", "a", "z", "z"),
                     ("turn", "a", "z"), ("power", 2, "a", "z"), ("inverse", "a", "y"), ("reduce", "a", "z"),
                     ("kernel", "a", "z"), ("solve", "a", "z", "z")]:
            self.assertEqual(after(start, call, ("all",))[1], "z y a", call)

    def test_dropped_and_held_again(self):
        start = [("enter", "z", "1"), ("enter", "a", "2"), ("enter", "m", "3")]
        self.assertEqual(after(start, ("drop", "z"), ("all",), ("enter", "z", "1"), ("all",), ("drop", "m"), ("all",),
                               ("enter", "a", "7"), ("all",), ("turn", "m", "a"), ("all",)),
                         [0, "a m", 0, "a m z", 0, "a z", 0, "a z", 0, "a z m"])

    def test_refused_is_not_held(self):
        start = METRES + [("enter", "a", "1[m], 2[s]")]
        self.assertEqual(after(start, ("inverse", "b", "a"), ("enter", "b", "1[x]"), ("solve", "b", "a", "c"),
                               ("reduce", "B", "a"), ("all",)), [-13, -5, -8, -1, "a"])

    def test_twenty(self):
        names = [f"f{number}" for number in range(20)]
        self.assertEqual(after(fill(20), ("all",), ("reduce", "f20", "f0"), ("kernel", "f20", "f0"), ("all",)),
                         [" ".join(names), -3, -3, " ".join(names)])

    def test_longest_names(self):
        names = ["a" * 11 + sign for sign in "abcdefghijklmnopqrst"]
        self.assertEqual(after([("enter", name, "1") for name in names], ("all",)), [" ".join(names)])


class LaterBase(unittest.TestCase):
    """A base that comes while matrices are held: their measures have the power 0 at it."""

    def test_each_call(self):
        start = METRES + [("enter", "a", "1[m], 2[s]; 3[km], 0"), ("enter", "b", "1[m], 2[m.s]; 3[m/s], 4[m]"),
                          ("enter", "c", "5[m.s]; 6[km.s]"), ("enter", "d", "1[m], 2[s], 3")]
        asked = [("det", "a"), ("inverse", "i", "a"), ("show", "i"), ("form", "i"), ("reduce", "r", "d"), ("show", "r"),
                 ("form", "r"), ("kernel", "k", "d"), ("show", "k"), ("form", "k"), ("solve", "x", "a", "c"), ("show", "x"),
                 ("form", "x"), ("poly", "b"), ("same", "a", "b"), ("same", "a", "a"), ("drop", "d"), ("all",)]
        without = after(start, *asked)
        self.assertEqual(without, ["-6000[m.s]", 0, "0[m^-1], 1/3000[m^-1]; 1/2[s^-1], -1/6000[s^-1]",
                                   "m^-1, s^-1 by 1, 1", (0, 1), "1, 2[m^-1.s], 3[m^-1]", "1 by 1, m.s^-1, m", (0, 2),
                                   "-2[m^-1.s], -3[m^-1]; 1, 0[s^-1]; 0[s], 1", "m^-1.s, 1, s by 1, s", (0, 0),
                                   "2[s]; 3/2[m]", "s, m by 1", "1, -5[m], -2[m^2]", 0, 1, 0, "a b c i r k x"])
        self.assertEqual(after(start + [("base", "kg")], *asked), without)
        for place in range(len(asked)):
            given = after(start, *(asked[:place] + [("base", "kg")] + asked[place:]))
            self.assertEqual(given[:place] + given[place + 1:], without)

    def test_with_the_new_base(self):
        start = METRES + [("enter", "a", "1[m], 2[s]; 3[km], 0"), ("base", "kg"), ("scale", "b", "a", "1[kg]")]
        self.assertEqual(after(start, ("det", "b"), ("same", "a", "b"), ("solve", "x", "a", "b"), ("show", "x"),
                               ("inverse", "b", "b"), ("form", "b"), ("enter", "c", "1[m], 2[s]; 3[km], 0"),
                               ("same", "a", "c"), ("poly", "x")),
                         ["-6000[m.s.kg^2]", 0, (0, 0), "1[kg], 0[m^-1.s.kg]; 0[m.s^-1.kg], 1[kg]", 0,
                          "m^-1.kg^-1, s^-1.kg^-1 by 1, 1", 0, 1, "1, -2[kg], 1[kg^2]"])

    def test_matrices_from_ahead_of_any_base(self):
        start = [("enter", "a", "1, 0; 0, 1"), ("enter", "z", "0, 0"), ("base", "m")]
        self.assertEqual(after(start, ("det", "a"), ("inverse", "i", "a"), ("same", "i", "a"), ("poly", "a"),
                               ("reduce", "r", "z"), ("show", "r"), ("kernel", "k", "z"), ("show", "k"),
                               ("enter", "b", "1, 0[1]; 0[1], 1"), ("same", "a", "b"), ("scale", "b", "b", "1[m]"),
                               ("solve", "x", "a", "b"), ("show", "x")),
                         ["1", 0, 1, "1, -2, 1", (0, 0), "0[1], 0[1]", (0, 2), "1, 0[1]; 0[1], 1", 0, 1, 0, (0, 0),
                          "1[m], 0[m]; 0[m], 1[m]"])


if __name__ == "__main__":
    unittest.main()
