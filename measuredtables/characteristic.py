"""The determinant and the characteristic numbers of a matrix; None where one of them is too far to be told."""

from measuredtables.elimination import determinant
from measuredtables.ratios import lowest
from measuredtables.wholes import ENTRY_DIGITS, bottoms_of_rows, tops_of_rows


def product_of_numbers(numbers):
    product = 1
    for number in numbers:
        product = product * number
    return product


def determinant_of(a):
    bottoms = bottoms_of_rows(a.entries)
    top = determinant(tops_of_rows(a.entries, bottoms))
    return lowest(top, product_of_numbers(bottoms), ENTRY_DIGITS)


def choices(count):
    chosen = [[]]
    for place in range(count):
        chosen = chosen + [choice + [place] for choice in chosen]
    return chosen


def picked(row, places):
    return [row[place] for place in places]


def square_of(rows, places):
    return [picked(row, places) for row in picked(rows, places)]


# The rows that weren't chosen bring their denominators in, so that all determinants are over the product of all.
def top_of_choice(rows, bottoms, choice):
    others = [bottom for place, bottom in enumerate(bottoms) if place not in choice]
    return determinant(square_of(rows, choice)) * product_of_numbers(others)


def top_of_choices(rows, bottoms, count):
    chosen = [choice for choice in choices(len(rows)) if len(choice) == count]
    top = sum([top_of_choice(rows, bottoms, choice) for choice in chosen])
    return -top if count % 2 == 1 else top


def characteristic_numbers(a):
    bottoms = bottoms_of_rows(a.entries)
    rows = tops_of_rows(a.entries, bottoms)
    under = product_of_numbers(bottoms)
    numbers = []
    for count in range(len(rows) + 1):
        number = lowest(top_of_choices(rows, bottoms, count), under, ENTRY_DIGITS)
        if number is None:
            return None
        numbers.append(number)
    return numbers
