"""The book of bases and units, and the worth of numbers with factors."""

from measuredtables.measures import MOST_BASES, base_measure, is_within, multiplied, no_measure, raised_measure
from measuredtables.ratios import lowest, multiplied_ratio, raised_ratio
from measuredtables.refusals import NOT_IN_THE_BOOK, TOO_FAR

MOST_ENTRIES = 40
RATIO_DIGITS = 40
FARTHEST_POWER = 99


# A refused worth has a refusal below 0, and its ratio and measure mean nothing.
class Worth:
    def __init__(self, refusal, ratio, measure):
        self.refusal = refusal
        self.ratio = ratio
        self.measure = measure


def refused_worth(refusal):
    return Worth(refusal, (1, 1), no_measure())


class Book:
    def __init__(self):
        self.worths = {}
        self.bases = []

    def has(self, word):
        return word in self.worths

    def has_bases(self):
        return len(self.bases) > 0

    def is_full(self):
        return len(self.worths) >= MOST_ENTRIES

    def has_all_bases(self):
        return len(self.bases) >= MOST_BASES

    def add_base(self, word):
        self.worths[word] = Worth(0, (1, 1), base_measure(len(self.bases)))
        self.bases.append(word)

    def add_unit(self, word, worth):
        self.worths[word] = worth

    def has_all_of(self, factors):
        return all([self.has(word) for word, power in factors])

    # Only the result is held against the bounds: on the way the factors may go far and come back.
    def worth_of(self, number, factors):
        if not self.has_all_of(factors):
            return refused_worth(NOT_IN_THE_BOOK)
        ratio = number
        measure = no_measure()
        for word, power in factors:
            worth = self.worths[word]
            ratio = multiplied_ratio(ratio, raised_ratio(worth.ratio, power))
            measure = multiplied(measure, raised_measure(worth.measure, power))
        ratio = lowest(ratio[0], ratio[1], RATIO_DIGITS)
        if ratio is None or not is_within(measure, FARTHEST_POWER):
            return refused_worth(TOO_FAR)
        return Worth(0, ratio, measure)

    # Only the measure's worth may be too far: the cell's own number doesn't count for that.
    def value_of_cell(self, cell):
        if cell.factors is None:
            return Worth(0, cell.number, no_measure())
        worth = self.worth_of((1, 1), cell.factors)
        return Worth(worth.refusal, multiplied_ratio(cell.number, worth.ratio), worth.measure)

    # A 0 without a measure fits whatever its row and column need, so its measure is left open as None.
    def value_of_entered_cell(self, cell):
        if cell.factors is None and cell.number[0] == 0:
            return Worth(0, cell.number, None)
        return self.value_of_cell(cell)

    def values_of_entered_row(self, row):
        return [self.value_of_entered_cell(cell) for cell in row]
