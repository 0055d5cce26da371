"""Measures: lists of powers, one for each base that a book may ever have."""

MOST_BASES = 8


# A base that isn't there yet has the power 0 already, so nothing is to be changed when it comes.
def no_measure():
    return [0] * MOST_BASES


def base_measure(place):
    powers = no_measure()
    powers[place] = 1
    return powers


def multiplied(x, y):
    return [one + other for one, other in zip(x, y)]


def divided(x, y):
    return [one - other for one, other in zip(x, y)]


def product_of_measures(measures):
    product = no_measure()
    for measure in measures:
        product = multiplied(product, measure)
    return product


def raised_measure(measure, times):
    return [times * power for power in measure]


def is_within(measure, bound):
    return max(measure) <= bound and min(measure) >= -bound


def shown_factor(name, power):
    if power == 1:
        return name
    return name + "^" + str(power)


def shown_measure(measure, bases):
    factors = [shown_factor(name, power) for name, power in zip(bases, measure) if power != 0]
    if len(factors) == 0:
        return "1"
    return ".".join(factors)
