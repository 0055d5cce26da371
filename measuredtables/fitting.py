"""Finding the measures of rows and columns from the measures of entries, which are None where any will do."""

from measuredtables.measures import divided, multiplied, no_measure


# Parts are groups of rows and columns that no told measure ties together: each could be shifted by itself.
class Fit:
    def __init__(self, height, width):
        self.rows = [None] * height
        self.columns = [None] * width
        self.parts = 0


def tie_cell(fit, i, j, measure):
    if fit.rows[i] is None and fit.columns[j] is not None:
        fit.rows[i] = multiplied(fit.columns[j], measure)
    elif fit.rows[i] is not None and fit.columns[j] is None:
        fit.columns[j] = divided(fit.rows[i], measure)


def tie_cells(fit, measures):
    for i, row in enumerate(measures):
        for j, measure in enumerate(row):
            if measure is not None:
                tie_cell(fit, i, j, measure)


# Each walk over the cells ties at least one more row or column, as long as there is one to be tied.
def spread(fit, measures):
    for step in range(len(fit.rows) + len(fit.columns)):
        tie_cells(fit, measures)


def fit_to(measures):
    fit = Fit(len(measures), len(measures[0]))
    for j in range(len(measures[0])):
        if fit.columns[j] is None:
            fit.columns[j] = no_measure()
            fit.parts = fit.parts + 1
            spread(fit, measures)
    for i in range(len(measures)):
        if fit.rows[i] is None:
            fit.rows[i] = no_measure()
            fit.parts = fit.parts + 1
    return fit


def row_agrees(row_measure, column_measures, measures):
    for column_measure, measure in zip(column_measures, measures):
        if measure is not None and divided(row_measure, column_measure) != measure:
            return False
    return True


def agrees(fit, measures):
    return all([row_agrees(row, fit.columns, told) for row, told in zip(fit.rows, measures)])
