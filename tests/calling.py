"""Calls written as tuples of a name and its arguments, for all tests."""

from measuredtables.tables import answers

NUMBERS = {
    "base": 0, "unit": 1, "enter": 2, "show": 3, "form": 4, "add": 5, "scale": 6, "times": 7, "turn": 8, "power": 9,
}


def row(text):
    row_bytes = list(text) if isinstance(text, (bytes, list)) else list(text.encode("latin-1"))
    return [len(row_bytes)] + row_bytes


def packed(calls):
    line = []
    for call in calls:
        line.append(NUMBERS[call[0]])
        for argument in call[1:]:
            line.extend([argument] if isinstance(argument, int) else row(argument))
    return line


def unpacked(told):
    given = []
    place = 0
    while place < len(told):
        size = told[place]
        given.append(told[place + 1:place + 1 + size])
        place += 1 + size
    return given


def read(answer):
    return answer[0] if len(answer) == 1 else bytes(answer[1:]).decode("ascii")


def run(*calls):
    """The answers: a number where one is answered alone, else the text behind the 0."""
    return [read(answer) for answer in unpacked(answers(packed(calls)))]


def last(*calls):
    return run(*calls)[-1]


def after(start, *calls):
    """The answers to calls behind a start of which nothing may be refused."""
    given = run(*(list(start) + list(calls)))
    refused = [(call, answer) for call, answer in zip(start, given) if isinstance(answer, int) and answer < 0]
    if refused:
        raise AssertionError(f"the start is refused: {refused}")
    return given[len(start):]


METRES = [("base", "m"), ("base", "s"), ("unit", "km", "1000 m")]
TEN_39 = "1" + "0" * 39


def fill(count, start=0):
    return [("enter", f"f{number}", "1") for number in range(start, start + count)]
