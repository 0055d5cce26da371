"""Reading texts: words, measures, fractions, quantities, cells and matrices; None for what is no such text."""

from measuredtables.ratios import lowest, raised

LETTERS = "abcdefghijklmnopqrstuvwxyz"
DIGITS = "0123456789"
MOST_WORD_SIGNS = 12
MOST_FACTORS = 20
MOST_POWER_DIGITS = 2
MOST_FRACTION_SIGNS = 90
FRACTION_DIGITS = 40
MOST_QUANTITY_SIGNS = 500
MOST_MATRIX_SIGNS = 4000
MOST_ROWS = 6


# The factors are None where no measure is told, which isn't the same as the measure 1.
class Amount:
    def __init__(self, number, factors):
        self.number = number
        self.factors = factors


def is_word(text):
    if len(text) == 0 or len(text) > MOST_WORD_SIGNS or text[0] not in LETTERS:
        return False
    return all([sign in LETTERS or sign in DIGITS or sign == "_" for sign in text])


def is_digits(text):
    return len(text) > 0 and all([sign in DIGITS for sign in text])


def without_minus(text):
    return text[1:] if text.startswith("-") else text


def read_power(text):
    digits = without_minus(text)
    if not is_digits(digits) or len(digits) > MOST_POWER_DIGITS:
        return None
    return int(text)


def read_factor(text):
    if text == "1":
        return ("1", 1)
    parts = text.split("^")
    if len(parts) > 2 or not is_word(parts[0]):
        return None
    power = read_power(parts[1]) if len(parts) == 2 else 1
    return None if power is None else (parts[0], power)


def read_turned_factor(text):
    if not text.startswith("/"):
        return read_factor(text)
    factor = read_factor(text[1:])
    return None if factor is None else (factor[0], -factor[1])


def read_measure(text):
    pieces = text.replace("/", "./").split(".")
    if len(pieces) > MOST_FACTORS:
        return None
    factors = [read_turned_factor(piece) for piece in pieces]
    if None in factors:
        return None
    return [factor for factor in factors if factor[0] != "1"]


def read_fraction(text):
    if len(text) > MOST_FRACTION_SIGNS:
        return None
    mark = "." if "." in text else "/"
    parts = without_minus(text).split(mark)
    if len(parts) > 2 or not all([is_digits(part) for part in parts]):
        return None
    top = int(parts[0])
    bottom = 1
    if len(parts) == 2 and mark == ".":
        top = int(parts[0] + parts[1])
        bottom = raised(10, len(parts[1]))
    elif len(parts) == 2:
        bottom = int(parts[1])
    if bottom == 0:
        return None
    return lowest(-top if text.startswith("-") else top, bottom, FRACTION_DIGITS)


def read_quantity(text):
    if len(text) > MOST_QUANTITY_SIGNS:
        return None
    parts = text.split(" ")
    if len(parts) > 2:
        return None
    number = read_fraction(parts[0]) if len(parts) == 2 else (1, 1)
    factors = read_measure(parts[-1])
    if number is None or factors is None:
        return None
    return Amount(number, factors)


def read_bare_cell(text):
    number = read_fraction(text)
    return None if number is None else Amount(number, None)


def read_cell(text):
    if not text.endswith("]"):
        return read_bare_cell(text)
    place = text.find("[")
    if place < 0:
        return None
    number = read_fraction(text[:place])
    factors = read_measure(text[place + 1:-1])
    if number is None or factors is None:
        return None
    return Amount(number, factors)


def read_row(text):
    texts = text.split(",")
    if len(texts) > MOST_ROWS:
        return None
    cells = [read_cell(cell.strip(" ")) for cell in texts]
    return None if None in cells else cells


def read_matrix(text):
    if len(text) > MOST_MATRIX_SIGNS:
        return None
    texts = text.split(";")
    if len(texts) > MOST_ROWS:
        return None
    rows = [read_row(row) for row in texts]
    if None in rows:
        return None
    if not all([len(row) == len(rows[0]) for row in rows]):
        return None
    return rows
