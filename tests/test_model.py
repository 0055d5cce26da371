"""The program against the model, on lines that a seeded generator makes: the same lines each time."""

import random
import unittest

from calling import run
from model import Model

BASES = ["m", "s", "kg"]
NAMES = ["a", "b", "c", "d", "e"]
NUMBERS = ["0", "0", "0", "1", "-1", "2", "1/2", "-2/3", "0.5", "7", "3/14", "12.25", "-0", "9" * 40, "1/" + "9" * 40]
MISSPELT = ["", "1[m", "x", "1/0", "1,,2", "2 3", "1[zz]", "1[m^99.m]", "1[m^100]", "M"]


class Maker:
    def __init__(self, seed):
        self.chance = random.Random(seed)
        self.words = []

    def pick(self, choices):
        return self.chance.choice(choices)

    def one_in(self, count):
        return self.chance.randrange(count) == 0

    def measure(self):
        if not self.words or self.one_in(8):
            return "1"
        text = self.pick(self.words)
        for step in range(self.chance.randrange(3)):
            text += self.pick("./") + self.pick(self.words) + self.pick(["", "", "^2", "^-1", "^0", "^-12"])
        return text

    def number(self):
        return self.pick(NUMBERS[:-2]) if not self.one_in(20) else self.pick(NUMBERS)

    def cell(self):
        if self.one_in(60):
            return self.pick(MISSPELT)
        return self.number() + (f"[{self.measure()}]" if self.one_in(3) else "")

    def fitting_cells(self, height, width):
        """Cells of which each has the measure of its row over that of its column, some zeros left open."""
        rows = [self.measure() for i in range(height)]
        columns = [self.pick(["1", "1"] + self.words) for j in range(width)]
        told = []
        for row in rows:
            cells = []
            for column in columns:
                number = self.number()
                leave = number in ("0", "-0") and self.one_in(2)
                cells.append(number if leave else f"{number}[{row}/{column}]")
            told.append(", ".join(cells))
        return "; ".join(told)

    def matrix(self):
        height, width = self.pick([1, 2, 2, 2, 3, 6]), self.pick([1, 2, 2, 2, 3, 6])
        if self.one_in(3):
            return " ;".join(",".join(self.cell() for j in range(width)) for i in range(height))
        return self.fitting_cells(height, width)

    def name(self):
        return self.pick(NAMES) if not self.one_in(40) else self.pick(["", "A", "zz"])

    def book_call(self):
        word = self.pick(["k", "g", "h", "u1", "u2", "B", "m"])
        self.words.append(word)
        return ("unit", word, f"{self.pick(['1000', '1/60', '2', '0.001', '0', '9' * 39])} {self.measure()}")

    def call(self):
        name = self.pick(["enter", "enter", "enter", "show", "form", "add", "scale", "times", "times", "turn", "power", "unit"])
        if name == "unit":
            return self.book_call()
        if name == "enter":
            return ("enter", self.name(), self.matrix())
        if name in ("show", "form"):
            return (name, self.name())
        if name == "scale":
            return ("scale", self.name(), self.name(), self.cell())
        if name == "turn":
            return ("turn", self.name(), self.name())
        if name == "power":
            return ("power", self.chance.randrange(0, 11), self.name(), self.name())
        return (name, self.name(), self.name(), self.name())

    def line(self):
        calls = []
        for base in BASES[:self.chance.randrange(4)]:
            calls.append(("base", base))
            self.words.append(base)
        while len(calls) < 90:
            calls.append(self.call())
            if self.one_in(30):
                calls.append(("base", self.pick(BASES + ["q"])))
        for name in NAMES:
            calls.extend([("show", name), ("form", name)])
        return calls


class AgainstModel(unittest.TestCase):
    def test_lines(self):
        for seed in range(60):
            calls = Maker(seed).line()
            model = Model()
            self.assertEqual(run(*calls), [model.answer(call[0], call[1:]) for call in calls], seed)

    def test_lines_reach_the_refusals(self):
        seen = {}
        for seed in range(60):
            calls = Maker(seed).line()
            for call, answer in zip(calls, run(*calls)):
                kind = answer if isinstance(answer, int) else "text"
                seen[call[0], kind] = seen.get((call[0], kind), 0) + 1
        for reached in [("enter", 0), ("enter", -4), ("enter", -5), ("enter", -7), ("enter", -10), ("enter", -12),
                        ("add", 0), ("add", -9), ("add", -10), ("times", 0), ("times", -9), ("times", -10),
                        ("scale", 0), ("power", 0), ("power", -13), ("power", -10), ("show", "text"), ("turn", 0)]:
            self.assertGreater(seen.get(reached, 0), 4, reached)


if __name__ == "__main__":
    unittest.main()
