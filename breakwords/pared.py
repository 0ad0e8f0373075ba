"""Needless patterns, and a list without them."""

from breakwords.apart import apart


def needless(patterns, number):
    return apart(patterns, patterns[:number] + patterns[number + 1:])


def left_of_round(patterns, numbers):
    left = list(numbers)
    for number in numbers:
        remaining = [patterns[kept] for kept in left]
        if needless(remaining, left.index(number))[0] == "same":
            left.remove(number)
    return left


def pared(patterns):
    numbers = list(range(len(patterns)))
    left = left_of_round(patterns, numbers)
    while len(left) < len(numbers):
        numbers = left
        left = left_of_round(patterns, numbers)
    return left
