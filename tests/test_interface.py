"""The interface: lists of whole numbers in and out, and nothing kept or changed."""

import unittest

from calling import NUMBERS, packed, run
from measuredtables.tables import answers

LINE = [0, 1, 109, 2, 1, 97, 4, 50, 91, 109, 93, 3, 1, 97, 4, 1, 97, 9, 2, 1, 98, 1, 97, 3, 1, 98, 3, 1, 99]


KINDS = [
    ("base", "m"), ("unit", "km", "1000 m"), ("enter", "a", "1[m], 2[km]; 3[m], 4[m]"), ("show", "a"), ("form", "a"),
    ("add", "c", "a", "a"), ("scale", "d", "a", "1/2[km]"), ("times", "e", "a", "a"), ("turn", "f", "a"),
    ("power", 3, "g", "a"), ("det", "a"), ("inverse", "h", "a"), ("reduce", "i", "a"), ("kernel", "k", "a"),
    ("solve", "x", "a", "c"), ("poly", "a"), ("same", "a", "c"), ("drop", "x"), ("all",),
]


class Unchanged(list):
    """A list that tells when it's changed, for a while only as well."""

    def refuse(self, *given):
        raise AssertionError("what is handed in is changed")

    append = extend = insert = pop = remove = clear = sort = reverse = refuse
    __setitem__ = __delitem__ = __iadd__ = __imul__ = refuse


class Interface(unittest.TestCase):
    def test_answers(self):
        told = [1, 0, 1, 0, 5, 0, 50, 91, 109, 93, 7, 0, 109, 32, 98, 121, 32, 49, 1, 0, 7, 0, 52, 91, 109, 94, 50, 93, 1, -8]
        self.assertEqual(answers(LINE), told)

    def test_calls_ten_to_eighteen(self):
        # enter a "1,2;3,4" and b "1,2;2,4"
        enter = [2, 1, 97, 7, 49, 44, 50, 59, 51, 44, 52, 2, 1, 98, 7, 49, 44, 50, 59, 50, 44, 52]
        for call, told in [
            ([10, 1, 97], [3, 0, 45, 50]), ([11, 1, 99, 1, 97], [1, 0]), ([11, 1, 99, 1, 98], [1, -11]),
            ([12, 1, 99, 1, 97], [2, 0, 2]), ([12, 1, 99, 1, 98], [2, 0, 1]), ([13, 1, 99, 1, 97], [2, 0, 0]),
            ([13, 1, 99, 1, 98], [2, 0, 1]), ([14, 1, 99, 1, 97, 1, 98], [2, 0, 0]),
            ([14, 1, 99, 1, 98, 1, 98], [2, 0, 1]), ([14, 1, 99, 1, 98, 1, 97], [2, 1, 0]),
            ([15, 1, 97], [10, 0, 49, 44, 32, 45, 53, 44, 32, 45, 50]), ([16, 1, 97, 1, 97], [1, 1]),
            ([16, 1, 97, 1, 98], [1, 0]), ([17, 1, 97], [1, 0]), ([17, 1, 99], [1, -8]), ([18], [4, 0, 97, 32, 98]),
        ]:
            self.assertEqual(answers(enter + call), [1, 0, 1, 0] + told, call)
            self.assertEqual(answers(enter + call + [18])[:4 + len(told)], [1, 0, 1, 0] + told, call)
        self.assertEqual(answers([18]), [1, 0])

    def test_plain_values(self):
        for line in [LINE, packed(KINDS)]:
            told = answers(line)
            self.assertIs(type(told), list)
            self.assertTrue(all(type(number) is int for number in told))

    def test_not_changed(self):
        for calls in [LINE, packed(KINDS)]:
            line = Unchanged(calls)
            answers(line)
            self.assertEqual(line, calls)

    def test_every_kind_at_once(self):
        self.assertEqual(run(*KINDS), [0, 0, 0, "1[m], 2000[m]; 3[m], 4[m]", "m, m by 1, 1", 0, 0, 0, 0, 0, "-5996[m^2]", 0,
                                       (0, 2), (0, 0), (0, 0), "1, -5[m], -5996[m^2]", 0, 0, "a c d e f g h i"])
        self.assertEqual({call[0] for call in KINDS}, set(NUMBERS))

    def test_nothing_kept(self):
        first = answers(packed(KINDS))
        self.assertEqual(answers([18]), [1, 0])
        self.assertEqual(answers(packed(KINDS)), first)
        first = answers(LINE)
        self.assertEqual(answers([3, 1, 97]), [1, -8])
        self.assertEqual(answers([0, 1, 109]), [1, 0])
        self.assertEqual(answers(LINE), first)

    def test_answers_are_apart(self):
        first = answers(LINE)
        first.append(5)
        self.assertNotEqual(answers(LINE), first)

    def test_empty_texts(self):
        self.assertEqual(answers([10, 0, 11, 0, 0, 12, 0, 0, 13, 0, 0, 14, 0, 0, 0, 15, 0, 16, 0, 0, 17, 0, 18]),
                         [1, -8, 1, -1, 1, -1, 1, -1, 1, -1, 1, -8, 1, -8, 1, -8, 1, 0])
        self.assertEqual(answers([0, 0, 1, 0, 0, 2, 0, 0, 3, 0, 4, 0, 5, 0, 0, 0, 6, 0, 0, 0, 7, 0, 0, 0, 8, 0, 0, 9, 1, 0, 0]),
                         [1, -1, 1, -1, 1, -1, 1, -8, 1, -8, 1, -1, 1, -1, 1, -1, 1, -1, 1, -1])

    def test_long_texts(self):
        name = [97] * 10000
        self.assertEqual(answers([0, 10000] + name + [3, 1, 97]), [1, -1, 1, -8])
        self.assertEqual(answers([2, 1, 97, 10000] + [59] * 10000), [1, -4])

    def test_every_byte(self):
        every = list(range(256))
        self.assertEqual(answers([2, 1, 97, 256] + every + [6, 1, 97, 1, 97, 256] + every + [1, 1, 109, 256] + every),
                         [1, -4, 1, -8, 1, -4])

    def test_hundred_and_twenty_calls(self):
        line = packed([("enter", "a", "2")] + [("power", 1, "a", "a")] * 118 + [("show", "a")])
        self.assertEqual(answers(line), [1, 0] * 119 + [2, 0, 50])


if __name__ == "__main__":
    unittest.main()
