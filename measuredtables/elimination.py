"""Determinants of whole numbers and reduced forms, without a fraction on the way."""

from measuredtables.wholes import bottoms_of_rows, entries_over, tops_of_rows


# Pivots are the places of the columns, one for each row that isn't all zeros.
class Reduced:
    def __init__(self, entries, pivots):
        self.entries = entries
        self.pivots = pivots


def row_with_entry(rows, place, start):
    for i in range(start, len(rows)):
        if rows[i][place] != 0:
            return i
    return None


# Every number on the way is, but for its sign, a determinant of some of the first rows and columns. By the rule that
# Bareiss found, the division by the pivot before this one leaves no rest; so the numbers don't grow beyond that.
def cleared_row(row, pivot_row, place, earlier):
    pivot = pivot_row[place]
    entry = row[place]
    return [(pivot * x - entry * y) // earlier for x, y in zip(row, pivot_row)]


def determinant(rows):
    left = rows
    earlier = 1
    sign = 1
    while len(left) > 0:
        found = row_with_entry(left, 0, 0)
        if found is None:
            return 0
        pivot_row = left[found]
        others = left[:found] + left[found + 1:]
        left = [cleared_row(row, pivot_row, 0, earlier)[1:] for row in others]
        earlier = pivot_row[0]
        if found % 2 == 1:
            sign = -sign
    return sign * earlier


def with_exchanged(rows, i, k):
    exchanged = list(rows)
    exchanged[i] = rows[k]
    exchanged[k] = rows[i]
    return exchanged


def cleared_rows(rows, done, place, earlier):
    pivot_row = rows[done]
    return [row if i == done else cleared_row(row, pivot_row, place, earlier) for i, row in enumerate(rows)]


# A row may be multiplied by its denominator first, as it's divided by its pivot's entry in the end. All rows with a
# pivot have the same entry there, the last pivot, so one division of all of them is enough.
def reduced_form(entries):
    rows = tops_of_rows(entries, bottoms_of_rows(entries))
    width = len(rows[0])
    pivots = []
    earlier = 1
    for place in range(width):
        found = row_with_entry(rows, place, len(pivots))
        if found is not None:
            rows = cleared_rows(with_exchanged(rows, found, len(pivots)), len(pivots), place, earlier)
            earlier = rows[len(pivots)][place]
            pivots.append(place)
    return Reduced(entries_over(rows, earlier), pivots)
