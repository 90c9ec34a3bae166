"""Fractions: tuples (top, bottom) in lowest terms, bottom from 1 on."""

from creasecurve.errors import NoFraction


def greatest_divisor(a, b):
    larger = abs(a)
    smaller = abs(b)
    while smaller != 0:
        rest = larger % smaller
        larger = smaller
        smaller = rest
    return larger


def fraction(top, bottom):
    if bottom == 0:
        raise NoFraction("nothing is divided by 0")
    divisor = greatest_divisor(top, bottom)
    # Dividing by a number below 0 as well brings the sign from the bottom to the top.
    if bottom < 0:
        divisor = -divisor
    return (top // divisor, bottom // divisor)


def plus(a, b):
    return fraction(a[0] * b[1] + b[0] * a[1], a[1] * b[1])


def minus(a, b):
    return fraction(a[0] * b[1] - b[0] * a[1], a[1] * b[1])


def times(a, b):
    return fraction(a[0] * b[0], a[1] * b[1])


def over(a, b):
    # Where b is nought the bottom here is 0, so that fraction refuses it.
    return fraction(a[0] * b[1], a[1] * b[0])


def less(a, b):
    # Bottoms are above 0, so multiplying by both keeps the order.
    return a[0] * b[1] < b[0] * a[1]


def greatest(numbers):
    best = numbers[0]
    for number in numbers:
        if less(best, number):
            best = number
    return best


def least(numbers):
    best = numbers[0]
    for number in numbers:
        if less(number, best):
            best = number
    return best


def common_bottom(numbers):
    common = 1
    for number in numbers:
        common = common * number[1] // greatest_divisor(common, number[1])
    return common


def whole(number, factor):
    # The factor is one that the bottom divides, so nothing is lost.
    return number[0] * (factor // number[1])
