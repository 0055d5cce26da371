"""A second, plain telling of the document, with Python's own fractions, to hold the program against."""

import re
from fractions import Fraction
from itertools import combinations

WORD = "[a-z][a-z0-9_]{0,11}"
FACTOR = f"(?:1|{WORD}(?:\\^-?[0-9]{{1,2}})?)"
MEASURE = re.compile(f"{FACTOR}(?:[./]{FACTOR}){{0,19}}")
PIECE = re.compile(f"([./]?)({WORD}|1)(?:\\^(-?[0-9]+))?")
FRACTION = re.compile("(-?)([0-9]+)(?:/([0-9]+)|\\.([0-9]+))?")


class Refused(Exception):
    pass


def is_word(text):
    return re.fullmatch(WORD, text) is not None


def check(condition, refusal):
    if not condition:
        raise Refused(refusal)


def far(fraction, digits):
    return abs(fraction.numerator) >= 10 ** digits or fraction.denominator >= 10 ** digits


def fraction_of(text):
    found = FRACTION.fullmatch(text)
    check(found and len(text) <= 90, -4)
    sign, whole, under, behind = found.groups()
    check(under is None or int(under) != 0, -4)
    value = Fraction(int(whole), int(under or 1))
    if behind:
        value += Fraction(int(behind), 10 ** len(behind))
    check(not far(value, 40), -4)
    return -value if sign else value


def factors_of(text):
    check(MEASURE.fullmatch(text), -4)
    factors = []
    for mark, word, power in PIECE.findall(text):
        if word != "1":
            factors.append((word, int(power or 1) * (-1 if mark == "/" else 1)))
    return factors


def cell_of(text):
    if "[" not in text:
        return fraction_of(text), None
    number, measure = text.split("[", 1)
    check(measure.endswith("]"), -4)
    return fraction_of(number), factors_of(measure[:-1])


def plus(x, y, times=1):
    total = {base: x.get(base, 0) + times * y.get(base, 0) for base in list(x) + list(y)}
    return {base: power for base, power in total.items() if power != 0}


def minus(x, y):
    return plus(x, y, -1)


def determinant(rows):
    """By the first row, as the document tells it."""
    total = Fraction(0 if rows else 1)
    for j in range(len(rows)):
        if rows[0][j] != 0:
            total += (-1) ** j * rows[0][j] * determinant([row[:j] + row[j + 1:] for row in rows[1:]])
    return total


def without(rows, i, j):
    return [row[:j] + row[j + 1:] for row in rows[:i] + rows[i + 1:]]


def reduced(entries):
    """The reduced form and its pivots, step by step as the document tells it."""
    rows = [list(row) for row in entries]
    pivots = []
    for j in range(len(rows[0])):
        found = [i for i in range(len(pivots), len(rows)) if rows[i][j] != 0]
        if found:
            k = len(pivots)
            rows[k], rows[found[0]] = rows[found[0]], rows[k]
            rows[k] = [entry / rows[k][j] for entry in rows[k]]
            for i in range(len(rows)):
                if i != k:
                    rows[i] = [entry - rows[i][j] * other for entry, other in zip(rows[i], rows[k])]
            pivots.append(j)
    return rows, pivots


def quotients(rows, columns):
    return [[minus(row, column) for column in columns] for row in rows]


def form_of(measures):
    """The measures of rows and columns from those of the entries."""
    rows = [row[0] for row in measures]
    return rows, [minus(rows[0], measure) for measure in measures[0]]


class Model:
    def __init__(self):
        self.book = {}
        self.bases = []
        self.held = {}

    def answer(self, name, arguments):
        try:
            return getattr(self, name)(*arguments)
        except Refused as refused:
            return refused.args[0]

    def base(self, name):
        check(is_word(name), -1)
        check(name not in self.book, -2)
        check(len(self.bases) < 8 and len(self.book) < 40, -3)
        self.book[name] = (Fraction(1), {name: 1})
        self.bases.append(name)
        return 0

    def worth(self, number, factors):
        check(all(word in self.book for word, power in factors), -5)
        measure = {}
        for word, power in factors:
            number *= self.book[word][0] ** power
            measure = plus(measure, self.book[word][1], power)
        check(not far(number, 40) and all(-99 <= power <= 99 for power in measure.values()), -7)
        return number, measure

    def unit(self, name, text):
        check(is_word(name), -1)
        check(name not in self.book, -2)
        check(len(self.book) < 40, -3)
        check(len(text) <= 500, -4)
        number, blank, measure = text.rpartition(" ")
        factors = factors_of(measure)
        value = fraction_of(number) if blank else Fraction(1)
        check(value > 0, -6)
        self.book[name] = self.worth(value, factors)
        return 0

    def naming(self, new, *sources):
        check(is_word(new), -1)
        check(all(name in self.held for name in sources), -8)
        check(len(self.held) < 20 or new in self.held, -3)

    def hold(self, new, entries, measures):
        """measures: those of the entries, from which those of the rows and columns follow."""
        rows, columns = form_of(measures)
        check(not any(far(entry, 200) for row in entries for entry in row), -7)
        check(all(abs(power) <= 999 for measure in rows + columns for power in measure.values()), -7)
        self.held[new] = (entries, measures)
        return 0

    def enter(self, new, text):
        self.naming(new)
        check(len(text) <= 4000, -4)
        cells = [[cell_of(cell.strip(" ")) for cell in row.split(",")] for row in text.split(";")]
        check(len(cells) <= 6 and len(cells[0]) <= 6 and all(len(row) == len(cells[0]) for row in cells), -4)
        entries = [[None] * len(cells[0]) for row in cells]
        told = {}
        for i, row in enumerate(cells):
            for j, (number, factors) in enumerate(row):
                ratio, measure = self.worth(Fraction(1), factors or [])
                entries[i][j] = number * ratio
                if factors is not None or number != 0:
                    told[i, j] = measure
        return self.hold(new, entries, self.filled(told, len(cells), len(cells[0])))

    def filled(self, told, height, width):
        """Completes each three corners of a rectangle to four until nothing comes in any more."""
        known = dict(told)
        grown = True
        while grown:
            grown = False
            for i in range(height):
                for j in range(width):
                    for k in range(height):
                        for n in range(width):
                            if i != k and j != n and (i, n) in known and (k, j) in known and (k, n) in known:
                                fourth = plus(plus(known[i, n], known[k, j]), known[k, n], -1)
                                check(known.get((i, j), fourth) == fourth, -10)
                                grown = grown or (i, j) not in known
                                known[i, j] = fourth
        if not self.bases:
            return [[{}] * width for i in range(height)]
        check(len(known) == height * width, -12)
        return [[known[i, j] for j in range(width)] for i in range(height)]

    def shown_measure(self, measure):
        powers = [(base, measure[base]) for base in self.bases if base in measure]
        return ".".join(base if power == 1 else f"{base}^{power}" for base, power in powers) or "1"

    def shown_number(self, number, measure):
        return str(number) + (f"[{self.shown_measure(measure)}]" if measure else "")

    def shown_entry(self, entry, measure):
        return "0[1]" if entry == 0 and not measure else self.shown_number(entry, measure)

    def show(self, a):
        check(a in self.held, -8)
        rows = [", ".join(map(self.shown_entry, *pair)) for pair in zip(*self.held[a])]
        check(len("; ".join(rows)) <= 8000, -6)
        return "; ".join(rows)

    def form(self, a):
        check(a in self.held, -8)
        return " by ".join(", ".join(map(self.shown_measure, side)) for side in form_of(self.held[a][1]))

    def add(self, new, a, b):
        self.naming(new, a, b)
        (x, p), (y, q) = self.held[a], self.held[b]
        check(len(x) == len(y) and len(x[0]) == len(y[0]), -9)
        check(p == q, -10)
        return self.hold(new, [[s + t for s, t in zip(u, v)] for u, v in zip(x, y)], p)

    def scale(self, new, a, by):
        self.naming(new, a)
        number, factors = cell_of(by)
        ratio, measure = self.worth(Fraction(1), factors or [])
        entries, measures = self.held[a]
        return self.hold(new, [[number * ratio * entry for entry in row] for row in entries],
                         [[plus(measure, other) for other in row] for row in measures])

    def product(self, left, right):
        """Each entry's measure is that of the products it is the sum of, which must all have the same one."""
        (x, p), (y, q) = left, right
        check(len(x[0]) == len(y), -9)
        entries, measures = [], []
        for i in range(len(x)):
            entries.append([])
            measures.append([])
            for k in range(len(y[0])):
                parts = [plus(p[i][j], q[j][k]) for j in range(len(y))]
                check(all(part == parts[0] for part in parts), -10)
                entries[-1].append(sum(x[i][j] * y[j][k] for j in range(len(y))))
                measures[-1].append(parts[0])
        return entries, measures

    def times(self, new, a, b):
        self.naming(new, a, b)
        return self.hold(new, *self.product(self.held[a], self.held[b]))

    def turn(self, new, a):
        self.naming(new, a)
        return self.hold(new, *[[list(column) for column in zip(*side)] for side in self.held[a]])

    def power(self, n, new, a):
        check(1 <= n <= 9, -2)
        self.naming(new, a)
        once = self.held[a]
        check(len(once[0]) == len(once[0][0]), -13)
        result = once
        for step in range(n - 1):
            result = self.product(result, once)
        return self.hold(new, *result)

    def square(self, a):
        entries, measures = self.held[a]
        check(len(entries) == len(entries[0]), -13)
        return entries, measures

    def det(self, a):
        check(a in self.held, -8)
        entries, measures = self.square(a)
        number = determinant(entries)
        check(not far(number, 200), -7)
        measure = {}
        for i in range(len(entries)):
            measure = plus(measure, measures[i][i])
        return self.shown_number(number, measure)

    def inverse(self, new, a):
        self.naming(new, a)
        entries, measures = self.square(a)
        whole = determinant(entries)
        check(whole != 0, -11)
        places = range(len(entries))
        parts = [[(-1) ** (i + j) * determinant(without(entries, j, i)) / whole for j in places] for i in places]
        return self.hold(new, parts, [[minus({}, measures[j][i]) for j in places] for i in places])

    def reduce(self, new, a):
        self.naming(new, a)
        entries, measures = self.held[a]
        rows, pivots = reduced(entries)
        columns = form_of(measures)[1]
        row_measures = [columns[j] for j in pivots] + [{}] * (len(rows) - len(pivots))
        self.hold(new, rows, quotients(row_measures, columns))
        return 0, len(pivots)

    def kernel(self, new, a):
        self.naming(new, a)
        entries, measures = self.held[a]
        rows, pivots = reduced(entries)
        columns = form_of(measures)[1]
        free = [j for j in range(len(columns)) if j not in pivots]
        if free:
            parts = [[Fraction(int(i == j)) for j in free] for i in range(len(columns))]
            for row, pivot in zip(rows, pivots):
                parts[pivot] = [-row[j] for j in free]
            self.hold(new, parts, quotients(columns, [columns[j] for j in free]))
        return 0, len(free)

    def solve(self, new, a, b):
        self.naming(new, a, b)
        (x, p), (y, q) = self.held[a], self.held[b]
        check(len(x) == len(y), -9)
        (a_rows, a_columns), (b_rows, b_columns) = form_of(p), form_of(q)
        links = [minus(other, one) for one, other in zip(a_rows, b_rows)]
        check(all(link == links[0] for link in links), -10)
        pivots = reduced(x)[1]
        rows, all_pivots = reduced([one + other for one, other in zip(x, y)])
        if len(all_pivots) > len(pivots):
            return 1, 0
        parts = [[Fraction(0)] * len(y[0]) for column in a_columns]
        for row, pivot in zip(rows, pivots):
            parts[pivot] = row[len(a_columns):]
        self.hold(new, parts, quotients([plus(column, links[0]) for column in a_columns], b_columns))
        return 0, len(a_columns) - len(pivots)

    def poly(self, a):
        check(a in self.held, -8)
        entries, measures = self.square(a)
        check(all(measures[i][i] == measures[0][0] for i in range(len(entries))), -10)
        shown, measure = [], {}
        for k in range(len(entries) + 1):
            chosen = combinations(range(len(entries)), k)
            number = (-1) ** k * sum(determinant([[entries[i][j] for j in places] for i in places]) for places in chosen)
            check(not far(number, 200), -7)
            shown.append(self.shown_number(number, measure))
            measure = plus(measure, measures[0][0])
        return ", ".join(shown)

    def same(self, a, b):
        check(a in self.held and b in self.held, -8)
        return int(self.held[a] == self.held[b])

    def drop(self, a):
        check(a in self.held, -8)
        del self.held[a]
        return 0

    def all(self):
        return " ".join(self.held)
