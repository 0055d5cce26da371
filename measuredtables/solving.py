"""Matrices that are found by reduced forms: inverses, the reduced forms themselves, kernels and solutions."""

from measuredtables.elimination import reduced_form
from measuredtables.matrices import Matrix, made_of
from measuredtables.measures import multiplied, no_measure


def joined(entries, others):
    return [row + other for row, other in zip(entries, others)]


def unit_row(size, place):
    return [(1, 1) if j == place else (0, 1) for j in range(size)]


def unit_entries(size):
    return [unit_row(size, place) for place in range(size)]


# None if the determinant is 0: then some column of a has no pivot.
def inverse_of(a):
    size = len(a.rows)
    reduced = reduced_form(joined(a.entries, unit_entries(size)))
    if reduced.pivots != list(range(size)):
        return None
    return made_of(a.columns, a.rows, [row[size:] for row in reduced.entries])


def reduced_matrix(a, reduced):
    rows = [a.columns[place] for place in reduced.pivots]
    zeros = [no_measure()] * (len(a.rows) - len(rows))
    return Matrix(rows + zeros, a.columns, reduced.entries)


def places_without_pivot(a, reduced):
    return [place for place in range(len(a.columns)) if place not in reduced.pivots]


def negative(entry):
    return (-entry[0], entry[1])


def kernel_row(reduced, free, place):
    if place in reduced.pivots:
        row = reduced.entries[reduced.pivots.index(place)]
        return [negative(row[j]) for j in free]
    return unit_row(len(free), free.index(place))


# Free are the columns without a pivot; there must be one at least, as no matrix is without columns.
def kernel_of(a, reduced, free):
    entries = [kernel_row(reduced, free, place) for place in range(len(a.columns))]
    return made_of(a.columns, [a.columns[place] for place in free], entries)


def solution_row(reduced, place, width, size):
    if place in reduced.pivots:
        return reduced.entries[reduced.pivots.index(place)][width:]
    return [(0, 1)] * size


# Reduced is the form of a and b side by side. A pivot in b's part would ask for 0 to be 1: None then.
def solution_of(a, b, link, reduced):
    width = len(a.columns)
    if any([place >= width for place in reduced.pivots]):
        return None
    entries = [solution_row(reduced, place, width, len(b.columns)) for place in range(width)]
    return made_of([multiplied(column, link) for column in a.columns], b.columns, entries)
