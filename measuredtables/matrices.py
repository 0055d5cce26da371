"""Matrices with measures of rows and columns, and what is made of them."""

from measuredtables.measures import divided, is_within, multiplied, no_measure, product_of_measures, raised_measure
from measuredtables.measures import shown_measure
from measuredtables.ratios import added_ratio, lowest, multiplied_ratio, raised, shown_ratio
from measuredtables.wholes import ENTRY_DIGITS, common_bottom, entries_over, row_over, tops_over

FARTHEST_POWER = 999


class Matrix:
    def __init__(self, rows, columns, entries):
        self.rows = rows
        self.columns = columns
        self.entries = entries


def made_of(rows, columns, entries):
    first = columns[0]
    return Matrix([divided(row, first) for row in rows], [divided(column, first) for column in columns], entries)


def lowest_row(row):
    reduced = []
    for entry in row:
        fraction = lowest(entry[0], entry[1], ENTRY_DIGITS)
        if fraction is None:
            return None
        reduced.append(fraction)
    return reduced


# What is made of matrices has entries that aren't in lowest terms yet; None if it can't be held.
def settled(matrix):
    if not all([is_within(measure, FARTHEST_POWER) for measure in matrix.rows + matrix.columns]):
        return None
    entries = []
    for row in matrix.entries:
        reduced = lowest_row(row)
        if reduced is None:
            return None
        entries.append(reduced)
    return Matrix(matrix.rows, matrix.columns, entries)


def has_shape_of(a, b):
    return len(a.rows) == len(b.rows) and len(a.columns) == len(b.columns)


def is_square(a):
    return len(a.rows) == len(a.columns)


# As the first column's measure is always 1, the entries' measures are the same only if all these are.
def has_measures_of(a, b):
    return a.rows == b.rows and a.columns == b.columns


# What is held has its entries in lowest terms, so the same fractions are the same pairs.
def is_same(a, b):
    return has_measures_of(a, b) and a.entries == b.entries


def added_row(x, y):
    return [added_ratio(one, other) for one, other in zip(x, y)]


def sum_of(a, b):
    return Matrix(a.rows, a.columns, [added_row(x, y) for x, y in zip(a.entries, b.entries)])


def scaled_row(row, ratio):
    return [multiplied_ratio(entry, ratio) for entry in row]


def scaled(a, ratio, measure):
    rows = [multiplied(row, measure) for row in a.rows]
    return Matrix(rows, a.columns, [scaled_row(row, ratio) for row in a.entries])


def column_of(entries, place):
    return [row[place] for row in entries]


def columns_of(entries):
    return [column_of(entries, place) for place in range(len(entries[0]))]


def turned(a):
    rows = [divided(no_measure(), column) for column in a.columns]
    columns = [divided(no_measure(), row) for row in a.rows]
    return made_of(rows, columns, columns_of(a.entries))


# The one measure that makes each of the second measures of the first; None if there's none.
def link_between(measures, others):
    link = divided(others[0], measures[0])
    if not all([other == multiplied(link, measure) for measure, other in zip(measures, others)]):
        return None
    return link


def measure_of_determinant(a):
    return divided(product_of_measures(a.rows), product_of_measures(a.columns))


def inner_product(x, y):
    return sum([one * other for one, other in zip(x, y)])


def product_row(row, columns):
    return [inner_product(row, column) for column in columns]


# Whole numbers over one denominator are multiplied, as fractions would have to be reduced at each step.
def product_of(a, b, link):
    a_bottom = common_bottom(a.entries)
    b_bottom = common_bottom(b.entries)
    columns = columns_of(tops_over(b.entries, b_bottom))
    tops = [product_row(row, columns) for row in tops_over(a.entries, a_bottom)]
    rows = [multiplied(row, link) for row in a.rows]
    return made_of(rows, b.columns, entries_over(tops, a_bottom * b_bottom))


def power_row(row, columns, times):
    product = row
    for step in range(times - 1):
        product = product_row(product, columns)
    return product


# Row by row, each in lowest terms at once: a power may be huge, and the first entry that is too far ends it with None.
def power_of(a, times, link):
    bottom = common_bottom(a.entries)
    under = raised(bottom, times)
    tops = tops_over(a.entries, bottom)
    columns = columns_of(tops)
    entries = []
    for row in tops:
        reduced = lowest_row(row_over(power_row(row, columns, times), under))
        if reduced is None:
            return None
        entries.append(reduced)
    measure = raised_measure(link, times - 1)
    return made_of([multiplied(row, measure) for row in a.rows], a.columns, entries)


def shown_number(number, measure, bases):
    if measure == no_measure():
        return shown_ratio(number)
    return shown_ratio(number) + "[" + shown_measure(measure, bases) + "]"


# A bare 0 would be read as a 0 of any measure, so its measure is told even if it's 1.
def shown_entry(entry, measure, bases):
    if measure == no_measure() and entry[0] == 0:
        return "0[1]"
    return shown_number(entry, measure, bases)


def shown_row(a, place, bases):
    measures = [divided(a.rows[place], column) for column in a.columns]
    return ", ".join([shown_entry(entry, measure, bases) for entry, measure in zip(a.entries[place], measures)])


def shown_matrix(a, bases):
    return "; ".join([shown_row(a, place, bases) for place in range(len(a.rows))])


def shown_measures(measures, bases):
    return ", ".join([shown_measure(measure, bases) for measure in measures])


def shown_form(a, bases):
    return shown_measures(a.rows, bases) + " by " + shown_measures(a.columns, bases)


# The measures are the powers of one measure, from the power 0 on.
def shown_numbers(numbers, measure, bases):
    shown = [shown_number(number, raised_measure(measure, k), bases) for k, number in enumerate(numbers)]
    return ", ".join(shown)
