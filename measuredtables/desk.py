"""The object that holds a book and matrices under names, and answers calls."""

from measuredtables.book import Book
from measuredtables.characteristic import characteristic_numbers, determinant_of
from measuredtables.elimination import reduced_form
from measuredtables.fitting import agrees, fit_to
from measuredtables.matrices import has_measures_of, has_shape_of, is_same, is_square, link_between, made_of
from measuredtables.matrices import measure_of_determinant, power_of, product_of, scaled, settled, shown_form
from measuredtables.matrices import shown_matrix, shown_number, shown_numbers, sum_of, turned
from measuredtables.reading import is_word, read_cell, read_matrix, read_quantity
from measuredtables.refusals import FULL, IN_THE_BOOK, MORE_THAN_ONE_WAY, NOT_ABOVE_ZERO, NOT_A_WORD, NOT_HELD
from measuredtables.refusals import NOT_SQUARE, NOT_SUCH_A_TEXT, NO_INVERSE, NO_SUCH_POWER, OTHER_MEASURES
from measuredtables.refusals import OTHER_SHAPE, TOO_FAR, TOO_LONG
from measuredtables.solving import inverse_of, joined, kernel_of, places_without_pivot, reduced_matrix, solution_of

MOST_MATRICES = 20
MOST_SHOWN_SIGNS = 8000
MOST_TIMES = 9
DONE = 0
NO_SOLUTION = 1
SAME = 1
OTHER = 0


def text_answer(text):
    return [DONE] + [ord(sign) for sign in text]


def measures_of(values):
    return [value.measure for value in values]


def ratios_of(values):
    return [value.ratio for value in values]


def first_refusal(rows):
    for row in rows:
        for value in row:
            if value.refusal != DONE:
                return value.refusal
    return DONE


class Desk:
    def __init__(self):
        self.book = Book()
        self.held = {}

    def refusal_of_word(self, word):
        if not is_word(word):
            return NOT_A_WORD
        if self.book.has(word):
            return IN_THE_BOOK
        return DONE

    def refusal_of_sources(self, sources):
        for name in sources:
            if name not in self.held:
                return NOT_HELD
        return DONE

    def refusal_of_naming(self, new, sources):
        if not is_word(new):
            return NOT_A_WORD
        refusal = self.refusal_of_sources(sources)
        if refusal != DONE:
            return refusal
        if len(self.held) >= MOST_MATRICES and new not in self.held:
            return FULL
        return DONE

    def hold(self, new, matrix):
        kept = settled(matrix)
        if kept is None:
            return [TOO_FAR]
        self.held[new] = kept
        return [DONE]

    def hold_and_count(self, new, matrix, number):
        answer = self.hold(new, matrix)
        return [DONE, number] if answer == [DONE] else answer

    def base(self, name):
        refusal = self.refusal_of_word(name)
        if refusal != DONE:
            return [refusal]
        if self.book.is_full() or self.book.has_all_bases():
            return [FULL]
        self.book.add_base(name)
        return [DONE]

    def unit(self, name, text):
        refusal = self.refusal_of_word(name)
        if refusal != DONE:
            return [refusal]
        if self.book.is_full():
            return [FULL]
        quantity = read_quantity(text)
        if quantity is None:
            return [NOT_SUCH_A_TEXT]
        if quantity.number[0] <= 0:
            return [NOT_ABOVE_ZERO]
        worth = self.book.worth_of(quantity.number, quantity.factors)
        if worth.refusal == DONE:
            self.book.add_unit(name, worth)
        return [worth.refusal]

    def enter(self, new, text):
        refusal = self.refusal_of_naming(new, [])
        if refusal != DONE:
            return [refusal]
        cells = read_matrix(text)
        if cells is None:
            return [NOT_SUCH_A_TEXT]
        values = [self.book.values_of_entered_row(row) for row in cells]
        refusal = first_refusal(values)
        if refusal != DONE:
            return [refusal]
        measures = [measures_of(row) for row in values]
        fit = fit_to(measures)
        if not agrees(fit, measures):
            return [OTHER_MEASURES]
        if fit.parts > 1 and self.book.has_bases():
            return [MORE_THAN_ONE_WAY]
        return self.hold(new, made_of(fit.rows, fit.columns, [ratios_of(row) for row in values]))

    def show(self, a):
        refusal = self.refusal_of_sources([a])
        if refusal != DONE:
            return [refusal]
        text = shown_matrix(self.held[a], self.book.bases)
        if len(text) > MOST_SHOWN_SIGNS:
            return [TOO_LONG]
        return text_answer(text)

    def form(self, a):
        refusal = self.refusal_of_sources([a])
        if refusal != DONE:
            return [refusal]
        return text_answer(shown_form(self.held[a], self.book.bases))

    def add(self, new, a, b):
        refusal = self.refusal_of_naming(new, [a, b])
        if refusal != DONE:
            return [refusal]
        left = self.held[a]
        right = self.held[b]
        if not has_shape_of(left, right):
            return [OTHER_SHAPE]
        if not has_measures_of(left, right):
            return [OTHER_MEASURES]
        return self.hold(new, sum_of(left, right))

    def scale(self, new, a, by):
        refusal = self.refusal_of_naming(new, [a])
        if refusal != DONE:
            return [refusal]
        cell = read_cell(by)
        if cell is None:
            return [NOT_SUCH_A_TEXT]
        value = self.book.value_of_cell(cell)
        if value.refusal != DONE:
            return [value.refusal]
        return self.hold(new, scaled(self.held[a], value.ratio, value.measure))

    def times(self, new, a, b):
        refusal = self.refusal_of_naming(new, [a, b])
        if refusal != DONE:
            return [refusal]
        left = self.held[a]
        right = self.held[b]
        if len(left.columns) != len(right.rows):
            return [OTHER_SHAPE]
        link = link_between(left.columns, right.rows)
        if link is None:
            return [OTHER_MEASURES]
        return self.hold(new, product_of(left, right, link))

    def turn(self, new, a):
        refusal = self.refusal_of_naming(new, [a])
        if refusal != DONE:
            return [refusal]
        return self.hold(new, turned(self.held[a]))

    def power(self, n, new, a):
        if n < 1 or n > MOST_TIMES:
            return [NO_SUCH_POWER]
        refusal = self.refusal_of_naming(new, [a])
        if refusal != DONE:
            return [refusal]
        matrix = self.held[a]
        if not is_square(matrix):
            return [NOT_SQUARE]
        if n == 1:
            return self.hold(new, matrix)
        link = link_between(matrix.columns, matrix.rows)
        if link is None:
            return [OTHER_MEASURES]
        product = power_of(matrix, n, link)
        return [TOO_FAR] if product is None else self.hold(new, product)

    def det(self, a):
        refusal = self.refusal_of_sources([a])
        if refusal != DONE:
            return [refusal]
        matrix = self.held[a]
        if not is_square(matrix):
            return [NOT_SQUARE]
        number = determinant_of(matrix)
        if number is None:
            return [TOO_FAR]
        return text_answer(shown_number(number, measure_of_determinant(matrix), self.book.bases))

    def inverse(self, new, a):
        refusal = self.refusal_of_naming(new, [a])
        if refusal != DONE:
            return [refusal]
        if not is_square(self.held[a]):
            return [NOT_SQUARE]
        found = inverse_of(self.held[a])
        return [NO_INVERSE] if found is None else self.hold(new, found)

    def reduce(self, new, a):
        refusal = self.refusal_of_naming(new, [a])
        if refusal != DONE:
            return [refusal]
        reduced = reduced_form(self.held[a].entries)
        return self.hold_and_count(new, reduced_matrix(self.held[a], reduced), len(reduced.pivots))

    def kernel(self, new, a):
        refusal = self.refusal_of_naming(new, [a])
        if refusal != DONE:
            return [refusal]
        matrix = self.held[a]
        reduced = reduced_form(matrix.entries)
        free = places_without_pivot(matrix, reduced)
        if len(free) == 0:
            return [DONE, 0]
        return self.hold_and_count(new, kernel_of(matrix, reduced, free), len(free))

    def solve(self, new, a, b):
        refusal = self.refusal_of_naming(new, [a, b])
        if refusal != DONE:
            return [refusal]
        left = self.held[a]
        right = self.held[b]
        if len(left.rows) != len(right.rows):
            return [OTHER_SHAPE]
        link = link_between(left.rows, right.rows)
        if link is None:
            return [OTHER_MEASURES]
        reduced = reduced_form(joined(left.entries, right.entries))
        solution = solution_of(left, right, link, reduced)
        if solution is None:
            return [NO_SOLUTION, 0]
        return self.hold_and_count(new, solution, len(places_without_pivot(left, reduced)))

    def poly(self, a):
        refusal = self.refusal_of_sources([a])
        if refusal != DONE:
            return [refusal]
        matrix = self.held[a]
        if not is_square(matrix):
            return [NOT_SQUARE]
        link = link_between(matrix.columns, matrix.rows)
        if link is None:
            return [OTHER_MEASURES]
        numbers = characteristic_numbers(matrix)
        if numbers is None:
            return [TOO_FAR]
        return text_answer(shown_numbers(numbers, link, self.book.bases))

    def same(self, a, b):
        refusal = self.refusal_of_sources([a, b])
        if refusal != DONE:
            return [refusal]
        return [SAME if is_same(self.held[a], self.held[b]) else OTHER]

    def drop(self, a):
        refusal = self.refusal_of_sources([a])
        if refusal != DONE:
            return [refusal]
        self.held.pop(a)
        return [DONE]

    def names(self):
        return text_answer(" ".join(list(self.held)))
