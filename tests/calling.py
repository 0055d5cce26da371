"""Calls written as tuples of a name and its arguments, for all tests."""

from measuredtables.tables import answers

NUMBERS = {
    "base": 0, "unit": 1, "enter": 2, "show": 3, "form": 4, "add": 5, "scale": 6, "times": 7, "turn": 8, "power": 9,
    "det": 10, "inverse": 11, "reduce": 12, "kernel": 13, "solve": 14, "poly": 15, "same": 16, "drop": 17, "all": 18,
}
TEXTS = ("show", "form", "det", "poly", "all")
PAIRS = ("reduce", "kernel", "solve")


def row(text):
    row_bytes = list(text) if isinstance(text, (bytes, list)) else list(text.encode("latin-1"))
    return [len(row_bytes)] + row_bytes


def packed(calls):
    line = []
    for call in calls:
        line.append(NUMBERS[call[0]])
        for argument in call[1:]:
            line.extend([argument] if isinstance(argument, int) else row(argument))
    return line


def unpacked(told):
    given = []
    place = 0
    while place < len(told):
        size = told[place]
        given.append(told[place + 1:place + 1 + size])
        place += 1 + size
    return given


def read(name, answer):
    """Refused calls have one number below 0, and no call answers more or fewer numbers than are told of it."""
    if name in TEXTS and answer[0] == 0:
        return bytes(answer[1:]).decode("ascii")
    if name in PAIRS and answer[0] >= 0:
        if len(answer) == 2:
            return tuple(answer)
    elif len(answer) == 1:
        return answer[0]
    raise AssertionError(f"{name} can't answer {answer}")


def run(*calls):
    """The answers: a text where one is answered behind a 0, two numbers as a tuple, else the one number."""
    given = unpacked(answers(packed(calls)))
    if len(given) != len(calls):
        raise AssertionError(f"{len(calls)} calls have {len(given)} answers")
    return [read(call[0], answer) for call, answer in zip(calls, given)]


def last(*calls):
    return run(*calls)[-1]


def after(start, *calls):
    """The answers to calls behind a start of which nothing may be refused."""
    given = run(*(list(start) + list(calls)))
    refused = [(call, answer) for call, answer in zip(start, given) if isinstance(answer, int) and answer < 0]
    if refused:
        raise AssertionError(f"the start is refused: {refused}")
    return given[len(start):]


METRES = [("base", "m"), ("base", "s"), ("unit", "km", "1000 m")]
TEN_39 = "1" + "0" * 39


def fill(count, start=0):
    return [("enter", f"f{number}", "1") for number in range(start, start + count)]


def scaled(name, text, factor, times):
    """A matrix whose entries are far larger or smaller than a text may tell."""
    return [("enter", name, text)] + [("scale", name, name, factor)] * times


# Four times this is 10^100.
TEN_25 = "1" + "0" * 25


def large(name, text):
    return scaled(name, text, TEN_25, 4)


def small(name, text):
    return scaled(name, text, "1/" + TEN_25, 4)


def total(new, *names):
    calls = [("add", new, names[0], names[1])]
    return calls + [("add", new, new, name) for name in names[2:]]


def diagonal(numbers):
    size = range(len(numbers))
    return "; ".join(", ".join(str(numbers[i]) if i == j else "0" for j in size) for i in size)
