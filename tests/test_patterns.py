import itertools
import re
import unittest

from breakwords.errors import NoPattern
from breakwords.patterns import is_pattern, read_pattern, shown_pattern
from tests.helper import ALL_SIGNS, SMALL_LETTERS, place_by_form

LETTERS_22 = "abcdefghijklmnopqrstuv"

EXAMPLES = [
    (".ab1c", (".abc", (0, 0, 0, 1, 0))),
    ("2n", ("n", (2, 0))),
    ("a3b.", ("ab.", (0, 3, 0, 0))),
]

OTHERS = [
    ("a", ("a", (0, 0))),
    ("a1", ("a", (0, 1))),
    ("9a9", ("a", (9, 9))),
    (".a", (".a", (0, 0, 0))),
    (".1a", (".a", (0, 1, 0))),
    (".a1", (".a", (0, 0, 1))),
    ("a.", ("a.", (0, 0, 0))),
    ("1a.", ("a.", (1, 0, 0))),
    ("a1.", ("a.", (0, 1, 0))),
    (".a.", (".a.", (0, 0, 0, 0))),
    (".1a2.", (".a.", (0, 1, 2, 0))),
    ("1a2b3c4", ("abc", (1, 2, 3, 4))),
    ("hy3ph", ("hyph", (0, 0, 3, 0, 0))),
]


def written(signs, numbers):
    text = ""
    for place in range(len(numbers)):
        text += str(numbers[place]) if numbers[place] else ""
        text += signs[place:place + 1]
    return text


def long_patterns():
    for signs in (LETTERS_22, "." + LETTERS_22[1:], LETTERS_22[1:] + ".", "." + LETTERS_22[2:] + "."):
        numbers = [(place * 7) % 10 for place in range(23)]
        if signs.startswith("."):
            numbers[0] = 0
        if signs.endswith("."):
            numbers[-1] = 0
        yield (signs, tuple(numbers))
        yield (signs, (0,) * 23)


class Written(unittest.TestCase):
    def test_examples_of_the_document_and_others(self):
        for text, pattern in EXAMPLES + OTHERS:
            with self.subTest(text=text):
                self.assertIs(is_pattern(pattern), True)
                self.assertEqual(shown_pattern(pattern), text)
                self.assertEqual(read_pattern(text), pattern)

    def test_kinds_that_are_told(self):
        pattern = read_pattern(".a1b")
        self.assertEqual([type(part) for part in (pattern, pattern[0], pattern[1])], [tuple, str, tuple])
        self.assertEqual({type(number) for number in pattern[1]}, {int})

    def test_each_number_at_each_place(self):
        for signs in ("a", "ab", ".a", "a.", ".a.", ".ab."):
            first = 1 if signs.startswith(".") else 0
            last = len(signs) - 1 if signs.endswith(".") else len(signs)
            for place in range(first, last + 1):
                for number in range(10):
                    numbers = tuple(number if at == place else 0 for at in range(len(signs) + 1))
                    pattern = (signs, numbers)
                    self.assertIs(is_pattern(pattern), True, pattern)
                    self.assertEqual(read_pattern(shown_pattern(pattern)), pattern)

    def test_patterns_of_22_signs(self):
        for pattern in long_patterns():
            self.assertIs(is_pattern(pattern), True, pattern)
            self.assertEqual(shown_pattern(pattern), written(*pattern))
            self.assertEqual(read_pattern(shown_pattern(pattern)), pattern)


class Patterns(unittest.TestCase):
    def test_pairs_that_are_none(self):
        for thing in (
            ("ab", (0, 1, 0, 0)),
            ("ab", (0, 1)),
            ("a", ()),
            ("a", (0, -1)),
            ("a", (-1, 0)),
            ("a", (0, 10)),
            ("ab", (0, 10, 0)),
            (".a", (1, 0, 0)),
            (".a.", (3, 0, 0, 0)),
            ("a.", (0, 0, 1)),
            (".a.", (0, 0, 0, 9)),
            ("aB", (0, 0, 0)),
            ("a-b", (0, 0, 0, 0)),
            ("a1", (0, 0, 0)),
            ("a b", (0, 0, 0, 0)),
            ("a.b", (0, 0, 0, 0)),
            ("..a", (0, 0, 0, 0)),
            ("a..", (0, 0, 0, 0)),
            ("a" * 23, (0,) * 24),
            ("." + LETTERS_22, (0,) * 24),
            (LETTERS_22 + ".", (0,) * 24),
            ("." + LETTERS_22[1:] + ".", (0,) * 24),
            ("", (0,)),
            ("", ()),
            (".", (0, 0)),
            ("..", (0, 0, 0)),
        ):
            with self.subTest(thing=thing):
                self.assertIs(is_pattern(thing), False)

    def test_each_sign(self):
        for sign in ALL_SIGNS:
            self.assertIs(is_pattern((sign, (0, 0))), sign in SMALL_LETTERS, sign)
            self.assertIs(is_pattern(("a" + sign + "b", (0, 0, 0, 0))), sign in SMALL_LETTERS, sign)

    def test_short_pairs_are_patterns_just_where_their_texts_are_read(self):
        for length in range(4):
            for signs in itertools.product("a.", repeat=length):
                for count in (length, length + 1, length + 2):
                    for numbers in itertools.product((0, 1, 9), repeat=count):
                        thing = ("".join(signs), numbers)
                        self.assertIs(is_pattern(thing), self.is_read_back(thing), thing)

    def is_read_back(self, thing):
        try:
            return read_pattern(written(*thing)) == thing
        except NoPattern:
            return False


class Refused(unittest.TestCase):
    def place_of(self, text):
        with self.assertRaises(NoPattern, msg=text) as caught:
            read_pattern(text)
        return caught.exception.place

    def test_examples_of_the_document(self):
        for text, place in (
            ("1.a", 1), (".", 1), ("..", 1), ("a.b", 2), ("a.1", 2), ("a0", 1), ("a10", 2), (".1", 2),
        ):
            with self.subTest(text=text):
                self.assertEqual(self.place_of(text), place)

    def test_other_places(self):
        for text, place in (
            ("", 0), ("1", 1), ("0", 0), ("0a", 0), ("11", 1), ("12a", 1), ("1.", 1), ("..a", 1), (".1.", 2),
            (".12", 2), (".0a", 1), ("a..", 2), ("a1.b", 3), ("a1.1", 3), ("a22b", 2), (".a.a", 3),
            ("A", 0), ("aB", 1), ("a-b", 1), (" a", 0), ("a ", 1), ("a1 b", 2), (".a. ", 3), ("1-", 1),
        ):
            with self.subTest(text=text):
                self.assertEqual(self.place_of(text), place)

    def test_the_twenty_third_sign(self):
        for text, place in (
            (LETTERS_22 + "w", 22),
            (LETTERS_22 + ".", 22),
            ("." + LETTERS_22, 22),
            ("." + LETTERS_22[1:] + ".", 22),
            (LETTERS_22 + "wxyz", 22),
            ("1" + LETTERS_22 + "w", 23),
            (LETTERS_22 + "1w", 23),
            (LETTERS_22 + "1.", 23),
            (LETTERS_22 + "12", 23),
            (".1" + LETTERS_22[1:] + "3w", 24),
            ("1a" * 22 + "2a", 45),
            (LETTERS_22[1:] + "." + "1", 22),
        ):
            with self.subTest(text=text):
                self.assertEqual(self.place_of(text), place)
        self.assertEqual(read_pattern(LETTERS_22 + "1"), (LETTERS_22, (0,) * 22 + (1,)))

    def test_each_sign_that_can_stand_nowhere(self):
        for sign in ALL_SIGNS:
            if sign not in SMALL_LETTERS + ".123456789":
                for ahead in ("", ".", "1", ".1", "a", "a1", "a."):
                    self.assertEqual(self.place_of(ahead + sign + "a"), len(ahead))

    def test_all_short_texts_by_the_plain_form(self):
        form = re.compile(r"\.?([1-9]?[a-z])+([1-9]?\.|[1-9])?")
        for length in range(7):
            for signs in itertools.product("a.102", repeat=length):
                text = "".join(signs)
                if form.fullmatch(text):
                    pattern = read_pattern(text)
                    self.assertIs(is_pattern(pattern), True, text)
                    self.assertEqual(shown_pattern(pattern), text)
                    continue
                self.assertEqual(self.place_of(text), place_by_form(form, text), text)


if __name__ == "__main__":
    unittest.main()
