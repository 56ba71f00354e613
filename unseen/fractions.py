"""Fractions as pairs (a, b) of whole numbers, b above 0, in lowest terms.

There is one pair for each value, so two fractions are alike just if their pairs are equal.
"""


# True and False count as int in Python, but the document says that they are no numbers.
def is_whole(thing):
    return isinstance(thing, int) and not isinstance(thing, bool)


def greatest_divisor(a, b):
    left = abs(a)
    right = abs(b)
    while right != 0:
        rest = left % right
        left = right
        right = rest
    return left


def made(a, b):
    divisor = greatest_divisor(a, b)
    return (a // divisor, b // divisor)


def is_fraction(thing):
    if not isinstance(thing, tuple) or len(thing) != 2:
        return False
    if not is_whole(thing[0]) or not is_whole(thing[1]):
        return False
    return thing[1] > 0 and greatest_divisor(thing[0], thing[1]) == 1


def plus(one, other):
    return made(one[0] * other[1] + other[0] * one[1], one[1] * other[1])


def times(one, other):
    return made(one[0] * other[0], one[1] * other[1])


# Both lower parts are above 0, so multiplying by them keeps the order.
def below(one, other):
    return one[0] * other[1] < other[0] * one[1]
