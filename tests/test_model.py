"""The program against the model, on lines that a seeded generator makes: the same lines each time."""

import random
import unittest

from calling import NUMBERS, packed, run
from model import Model

BASES = ["m", "s", "kg"]
NAMES = ["a", "b", "c", "d", "e"]
FRACTIONS = ["0", "0", "0", "1", "-1", "2", "1/2", "-2/3", "0.5", "7", "3/14", "12.25", "-0", "9" * 40, "1/" + "9" * 40]
SIZES = [1, 2, 2, 3, 3, 4, 6]
NAMES_GIVEN = {
    "show": 1, "form": 1, "add": 3, "times": 3, "turn": 2, "det": 1, "inverse": 2, "reduce": 2, "kernel": 2, "solve": 3,
    "poly": 1, "same": 2, "drop": 1, "all": 0,
}
KINDS = list(NAMES_GIVEN) + ["enter"] * 8 + ["base", "unit", "scale", "power", "product", "product", "shared"]
REACHED = {
    "base": [0, -2], "unit": [0, -1, -2], "enter": [0, -1, -4, -5, -7, -10, -12], "show": ["text", -8],
    "form": ["text", -8], "add": [0, -8, -9, -10], "scale": [0, -1, -4, -8], "times": [0, -8, -9, -10],
    "turn": [0, -8], "power": [0, -2, -10, -13], "det": ["text", -8, -13], "inverse": [0, -8, -11, -13],
    "reduce": [0, -8], "kernel": [0, -8], "solve": [0, 1, -8, -9, -10], "poly": ["text", -8, -10, -13],
    "same": [0, 1, -8], "drop": [0, -8], "all": ["text"],
}
MISSPELT = ["", "1[m", "x", "1/0", "1,,2", "2 3", "1[zz]", "1[m^99.m]", "1[m^100]", "M"]


class Maker:
    def __init__(self, seed):
        self.chance = random.Random(seed)
        self.words = []

    def pick(self, choices):
        return self.chance.choice(choices)

    def one_in(self, count):
        return self.chance.randrange(count) == 0

    def measure(self):
        if not self.words or self.one_in(8):
            return "1"
        text = self.pick(self.words)
        for step in range(self.chance.randrange(3)):
            text += self.pick("./") + self.pick(self.words) + self.pick(["", "", "^2", "^-1", "^0", "^-12"])
        return text

    def number(self):
        return self.pick(FRACTIONS[:-2]) if not self.one_in(20) else self.pick(FRACTIONS)

    def cell(self):
        if self.one_in(60):
            return self.pick(MISSPELT)
        return self.number() + (f"[{self.measure()}]" if self.one_in(3) else "")

    def fitting_cells(self, rows, columns):
        """Cells of which each has the measure of its row over that of its column, some zeros left open."""
        told = []
        for row in rows:
            cells = []
            for column in columns:
                number = self.number()
                leave = number in ("0", "-0") and self.one_in(2)
                cells.append(number if leave else f"{number}[{row}/{column}]")
            told.append(", ".join(cells))
        return "; ".join(told)

    def column_measures(self, width):
        return [self.pick(["1", "1"] + self.words) for j in range(width)]

    def matrix(self):
        height, width = self.pick(SIZES), self.pick(SIZES)
        if self.one_in(4):
            return " ;".join(",".join(self.cell() for j in range(width)) for i in range(height))
        columns = self.column_measures(width)
        if self.one_in(2):
            link = self.measure()
            return self.fitting_cells([f"{link}.{column}" for column in columns], columns)
        return self.fitting_cells([self.measure() for i in range(height)], columns)

    def name(self):
        return self.pick(NAMES) if not self.one_in(40) else self.pick(["", "A", "zz"])

    def book_call(self):
        word = self.pick(["k", "g", "h", "u1", "u2", "B", "m"])
        self.words.append(word)
        return ("unit", word, f"{self.pick(['1000', '1/60', '2', '0.001', '0', '9' * 39])} {self.measure()}")

    def calls(self):
        """One call, or some that belong together."""
        name = self.pick(KINDS)
        if name == "unit":
            return [self.book_call()]
        if name == "base":
            return [("base", self.pick(BASES + ["q"]))]
        if name == "enter":
            return [("enter", self.name(), self.matrix())]
        if name == "scale":
            return [("scale", self.name(), self.name(), self.cell())]
        if name == "power":
            return [("power", self.chance.randrange(0, 11), self.name(), self.name())]
        if name == "product":
            a, b, new = self.name(), self.name(), self.name()
            return [("times", "p", a, b), ("solve", new, a, "p"), ("times", new, a, new), ("same", new, "p")]
        if name == "shared":
            a, new = self.name(), self.name()
            return [("add", "p", a, a), ("solve", new, a, "p"), ("reduce", "p", a), ("kernel", new, "p"), ("show", new)]
        return [tuple([name] + [self.name() for argument in range(NAMES_GIVEN[name])])]

    def line(self, size):
        calls = []
        for base in BASES[:self.chance.randrange(4)]:
            calls.append(("base", base))
            self.words.append(base)
        while len(calls) < size - 2 * len(NAMES) - 1:
            calls.extend(self.calls())
        for name in NAMES:
            calls.extend([("show", name), ("form", name)])
        return calls[:size - 1] + [("all",)]

    def long_cell(self):
        top, bottom = self.chance.randrange(10 ** 38, 10 ** 40), self.chance.randrange(10 ** 38, 10 ** 40)
        return self.pick(["", "-"]) + f"{top}/{bottom}"

    def long_matrix(self):
        return "; ".join(", ".join(self.long_cell() for j in range(6)) for i in range(6))


def told(calls):
    model = Model()
    return [model.answer(call[0], call[1:]) for call in calls]


class AgainstModel(unittest.TestCase):
    def test_lines_of_all_kinds(self):
        for seed in range(80):
            calls = Maker(seed).line(120)
            self.assertEqual(len(calls), 120)
            self.assertEqual(run(*calls), told(calls), seed)

    def test_lines_reach_answers_and_refusals(self):
        seen = {}
        for seed in range(80):
            calls = Maker(seed).line(120)
            for call, answer in zip(calls, run(*calls)):
                kind = answer[0] if isinstance(answer, tuple) else "text" if isinstance(answer, str) else answer
                seen[call[0], kind] = seen.get((call[0], kind), 0) + 1
        for name, kinds in REACHED.items():
            for kind in kinds:
                self.assertGreater(seen.get((name, kind), 0), 4, (name, kind))
        self.assertEqual(set(REACHED), set(NUMBERS))

    def test_a_line_near_17000(self):
        maker = Maker(17)
        calls = []
        for name in ["a", "b", "c", "d", "e"]:
            calls.append(("enter", name, maker.long_matrix()))
        for new, a, b in [("p", "a", "b"), ("q", "c", "d"), ("r", "p", "q")]:
            calls.append(("add", new, a, b))
        calls += [("det", "r"), ("inverse", "i", "a"), ("solve", "x", "a", "b"), ("reduce", "x", "r"), ("show", "x"),
                  ("kernel", "k", "r"), ("poly", "a"), ("times", "t", "a", "b"), ("power", 2, "t", "c"), ("form", "r"),
                  ("turn", "t", "r"), ("same", "t", "r"), ("scale", "t", "t", "1/7"), ("det", "t"), ("drop", "e"),
                  ("all",), ("base", "m"), ("unit", "u", "2 m"), ("scale", "t", "a", "3[u]"), ("show", "t")]
        self.assertEqual({call[0] for call in calls}, set(NUMBERS))
        room = 17000 - len(packed(calls + [("base", "")]))
        calls.append(("base", "a" * room))
        self.assertEqual(len(packed(calls)), 17000)
        self.assertEqual(run(*calls), told(calls))


if __name__ == "__main__":
    unittest.main()
