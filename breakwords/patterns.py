"""Patterns: tuples (signs, numbers), written by the signs with each number above 0 at its place."""

from breakwords.errors import NoPattern
from breakwords.words import is_letter, is_word

FIGURES = "123456789"
MOST_SIGNS = 22


def are_signs(text):
    begin = 1 if text.startswith(".") else 0
    end = len(text) - 1 if text.endswith(".") else len(text)
    return len(text) <= MOST_SIGNS and is_word(text[begin:end])


def are_numbers_of(signs, numbers):
    if len(numbers) != len(signs) + 1:
        return False
    if signs.startswith(".") and numbers[0] != 0:
        return False
    if signs.endswith(".") and numbers[-1] != 0:
        return False
    return all([0 <= number <= 9 for number in numbers])


def is_pattern(thing):
    return are_signs(thing[0]) and are_numbers_of(thing[0], thing[1])


def can_stand(sign, signs, number):
    # Ahead of the sign stand these signs and then, where it is above 0, this number.
    if len(signs) > 1 and signs.endswith("."):
        return False
    if sign in FIGURES:
        return number == 0
    if len(signs) == MOST_SIGNS:
        return False
    if sign == ".":
        # Without a letter ahead it can only be the first full stop, which has no number ahead.
        return signs != "." and (signs != "" or number == 0)
    return is_letter(sign)


def read_pattern(text):
    signs = ""
    numbers = [0]
    for place, sign in enumerate(text):
        if not can_stand(sign, signs, numbers[-1]):
            raise NoPattern(place)
        if sign in FIGURES:
            numbers[-1] = int(sign)
        else:
            signs = signs + sign
            numbers.append(0)
    if signs in ("", "."):
        raise NoPattern(len(text))
    return (signs, tuple(numbers))


def shown_number(number):
    return str(number) if number > 0 else ""


def shown_pattern(pattern):
    signs = pattern[0]
    numbers = pattern[1]
    shown = [shown_number(number) + sign for sign, number in zip(signs, numbers)]
    return "".join(shown) + shown_number(numbers[-1])
