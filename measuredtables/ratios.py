"""Exact fractions: tuples of a numerator and a denominator above 0."""


def raised(number, times):
    product = 1
    for step in range(times):
        product = product * number
    return product


# The steps depend on x and y in lowest terms alone, and are at most five for each digit of the smaller one
# (one more if x is the smaller). So 0 is answered only if both have more digits than told in lowest terms,
# and huge numbers that would be refused anyhow cost no long walk.
def common_divisor(x, y, digits):
    larger = x
    smaller = y
    for step in range(5 * digits + 2):
        if smaller == 0:
            return larger
        rest = larger % smaller
        larger = smaller
        smaller = rest
    return 0


def lowest(top, bottom, digits):
    divisor = common_divisor(abs(top), bottom, digits)
    if divisor == 0:
        return None
    numerator = top // divisor
    denominator = bottom // divisor
    bound = raised(10, digits)
    if abs(numerator) >= bound or denominator >= bound:
        return None
    return (numerator, denominator)


def common_multiple(x, y, digits):
    return x * (y // common_divisor(x, y, digits))


def multiplied_ratio(x, y):
    return (x[0] * y[0], x[1] * y[1])


def added_ratio(x, y):
    return (x[0] * y[1] + y[0] * x[1], x[1] * y[1])


def raised_ratio(ratio, times):
    if times < 0:
        return (raised(ratio[1], -times), raised(ratio[0], -times))
    return (raised(ratio[0], times), raised(ratio[1], times))


def shown_ratio(ratio):
    if ratio[1] == 1:
        return str(ratio[0])
    return str(ratio[0]) + "/" + str(ratio[1])
