import itertools
import re
import unittest

from breakwords.errors import NoWord
from breakwords.words import is_word, read_broken, shown_broken
from tests.helper import ALL_SIGNS, SMALL_LETTERS, place_by_form

TWENTY = "abcdefghijklmnopqrst"


class Words(unittest.TestCase):
    def test_words(self):
        for text in ("a", "z", "word", TWENTY, SMALL_LETTERS):
            self.assertIs(is_word(text), True, text)

    def test_no_sign_is_no_word(self):
        self.assertIs(is_word(""), False)

    def test_texts_with_other_signs(self):
        for text in ("A", "aB", "Ab", "a1", "1a", "a-b", "-", ".a", "a.", "a b", " a", "a ", "a`", "a{", "@ab", "a,"):
            self.assertIs(is_word(text), False, text)

    def test_each_sign_alone_and_within(self):
        for sign in ALL_SIGNS:
            for text in (sign, "a" + sign, sign + "z", "a" + sign + "z"):
                self.assertIs(is_word(text), sign in SMALL_LETTERS, text)

    def test_letters_of_other_scripts_are_none(self):
        for text in ("\u00e9", "a\u00df", "\u03b1"):
            self.assertIs(is_word(text), False, text)


class BrokenWords(unittest.TestCase):
    def test_written(self):
        for broken, text in (
            (("a", ()), "a"),
            (("ab", ()), "ab"),
            (("ab", (1,)), "a-b"),
            (("abc", (1, 2)), "a-b-c"),
            (("hyphenation", (2, 6)), "hy-phen-ation"),
            (("table", (2,)), "ta-ble"),
            ((TWENTY, (19,)), "abcdefghijklmnopqrs-t"),
        ):
            self.assertEqual(shown_broken(broken), text)
            self.assertEqual(read_broken(text), broken)

    def test_kinds_that_are_told(self):
        word, gaps = read_broken("a-b")
        self.assertIs(type(read_broken("a-b")), tuple)
        self.assertIs(type(word), str)
        self.assertIs(type(gaps), tuple)

    def test_read_back_for_each_length(self):
        for length in range(1, 21):
            word = TWENTY[:length]
            every = tuple(range(1, length))
            for gaps in ((), every, every[:1], every[-1:], every[::2], every[1::2], every[::3]):
                broken = (word, gaps)
                self.assertEqual(read_broken(shown_broken(broken)), broken)

    def test_read_back_for_all_gaps_of_short_words(self):
        for length in range(1, 9):
            word = TWENTY[:length]
            for count in range(length):
                for gaps in itertools.combinations(range(1, length), count):
                    text = shown_broken((word, gaps))
                    self.assertEqual(text.replace("-", ""), word)
                    self.assertEqual(read_broken(text), (word, gaps))

    def test_a_word_beyond_the_bound_is_not_refused(self):
        broken = (TWENTY + "abc", (1, 22))
        self.assertEqual(read_broken(shown_broken(broken)), broken)


class Refused(unittest.TestCase):
    def place_of(self, text):
        with self.assertRaises(NoWord) as caught:
            read_broken(text)
        return caught.exception.place

    def test_places(self):
        for text, place in (
            ("", 0),
            ("-", 0),
            ("-a", 0),
            ("--", 0),
            ("a-", 2),
            ("ab-", 3),
            ("a-b-", 4),
            ("a--", 2),
            ("a--b", 2),
            ("ab-c--d", 5),
            ("A", 0),
            ("abC", 2),
            ("a-B", 2),
            ("1", 0),
            ("a1b", 1),
            ("ab-1", 3),
            (" ", 0),
            (" ab", 0),
            ("a b", 1),
            ("ab ", 2),
            ("a- b", 2),
            ("ab.", 2),
            ("aB-", 1),
            ("a-?-", 2),
            (TWENTY + "-", 21),
        ):
            with self.subTest(text=text):
                self.assertEqual(self.place_of(text), place)

    def test_each_sign_that_is_neither_letter_nor_break(self):
        for sign in ALL_SIGNS:
            if sign not in SMALL_LETTERS + "-":
                self.assertEqual(self.place_of(sign), 0)
                self.assertEqual(self.place_of("a" + sign), 1)
                self.assertEqual(self.place_of("a-" + sign + "b"), 2)

    def test_all_short_texts_by_the_plain_form(self):
        form = re.compile("[a-z](-?[a-z])*")
        for length in range(7):
            for signs in itertools.product("ab-A", repeat=length):
                text = "".join(signs)
                if form.fullmatch(text):
                    self.assertEqual(shown_broken(read_broken(text)), text)
                    continue
                self.assertEqual(self.place_of(text), place_by_form(form, text), text)


if __name__ == "__main__":
    unittest.main()
