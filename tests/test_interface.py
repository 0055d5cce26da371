"""The interface: lists of whole numbers in and out, and nothing kept or changed."""

import unittest

from calling import packed
from measuredtables.tables import answers

LINE = [0, 1, 109, 2, 1, 97, 4, 50, 91, 109, 93, 3, 1, 97, 4, 1, 97, 9, 2, 1, 98, 1, 97, 3, 1, 98, 3, 1, 99]


class Interface(unittest.TestCase):
    def test_answers(self):
        told = [1, 0, 1, 0, 5, 0, 50, 91, 109, 93, 7, 0, 109, 32, 98, 121, 32, 49, 1, 0, 7, 0, 52, 91, 109, 94, 50, 93, 1, -8]
        self.assertEqual(answers(LINE), told)

    def test_plain_values(self):
        told = answers(LINE)
        self.assertIs(type(told), list)
        self.assertTrue(all(type(number) is int for number in told))

    def test_not_changed(self):
        line = list(LINE)
        answers(line)
        self.assertEqual(line, LINE)

    def test_nothing_kept(self):
        first = answers(LINE)
        self.assertEqual(answers([3, 1, 97]), [1, -8])
        self.assertEqual(answers([0, 1, 109]), [1, 0])
        self.assertEqual(answers(LINE), first)

    def test_answers_are_apart(self):
        first = answers(LINE)
        first.append(5)
        self.assertNotEqual(answers(LINE), first)

    def test_empty_texts(self):
        self.assertEqual(answers([0, 0, 1, 0, 0, 2, 0, 0, 3, 0, 4, 0, 5, 0, 0, 0, 6, 0, 0, 0, 7, 0, 0, 0, 8, 0, 0, 9, 1, 0, 0]),
                         [1, -1, 1, -1, 1, -1, 1, -8, 1, -8, 1, -1, 1, -1, 1, -1, 1, -1, 1, -1])

    def test_long_texts(self):
        name = [97] * 10000
        self.assertEqual(answers([0, 10000] + name + [3, 1, 97]), [1, -1, 1, -8])
        self.assertEqual(answers([2, 1, 97, 10000] + [59] * 10000), [1, -4])

    def test_every_byte(self):
        every = list(range(256))
        self.assertEqual(answers([2, 1, 97, 256] + every + [6, 1, 97, 1, 97, 256] + every + [1, 1, 109, 256] + every),
                         [1, -4, 1, -8, 1, -4])

    def test_hundred_and_twenty_calls(self):
        line = packed([("enter", "a", "2")] + [("power", 1, "a", "a")] * 118 + [("show", "a")])
        self.assertEqual(answers(line), [1, 0] * 119 + [2, 0, 50])


if __name__ == "__main__":
    unittest.main()
