"""Fractions brought over common denominators, so that whole numbers alone are reckoned with."""

from measuredtables.ratios import common_multiple

# An entry's numerator and denominator have at most so many digits.
ENTRY_DIGITS = 200


def common_bottom(entries):
    bottom = 1
    for row in entries:
        for entry in row:
            bottom = common_multiple(bottom, entry[1], ENTRY_DIGITS)
    return bottom


def row_of_tops(row, bottom):
    return [entry[0] * (bottom // entry[1]) for entry in row]


def tops_over(entries, bottom):
    return [row_of_tops(row, bottom) for row in entries]


# A denominator that came out of a determinant may be below 0, and a fraction's never is.
def row_over(tops, bottom):
    return [(top, bottom) if bottom > 0 else (-top, -bottom) for top in tops]


def entries_over(tops, bottom):
    return [row_over(row, bottom) for row in tops]


def bottoms_of_rows(entries):
    return [common_bottom([row]) for row in entries]


# Each row over a denominator of its own: these are far smaller than one for all rows would be.
def tops_of_rows(entries, bottoms):
    return [row_of_tops(row, bottom) for row, bottom in zip(entries, bottoms)]
