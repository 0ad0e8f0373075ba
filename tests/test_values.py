import copy
import itertools
import unittest

from breakwords.patterns import is_pattern, read_pattern
from breakwords.values import breaks, values
from tests.helper import listed, plain_values

TWENTY = "abcdefghijklmnopqrst"


class Values(unittest.TestCase):
    def check(self, texts, word, told):
        patterns = listed(texts)
        self.assertEqual(values(patterns, word), told)
        self.assertEqual(breaks(patterns, word), tuple(gap for gap in range(1, len(word)) if told[gap - 1] % 2))

    def test_no_patterns(self):
        self.check("", "word", [0, 0, 0])
        self.check("", TWENTY, [0] * 19)

    def test_no_pattern_fits(self):
        self.check("x1y a1c .b1c c1b. 9z", "abc", [0, 0])
        self.check("a1b1c1d", "abc", [0, 0])

    def test_one_fits_at_several_places(self):
        self.check("a1b", "abab", [1, 0, 1])
        self.check("1b2", "abbcb", [1, 2, 2, 1])

    def test_it_fits_over_itself(self):
        self.check("a1a2a", "aaaa", [1, 2, 2])
        self.check("a2a1a", "aaaaa", [2, 2, 2, 1])

    def test_full_stops_are_the_ends_alone(self):
        self.check(".a1b", "abab", [1, 0, 0])
        self.check("a1b.", "abab", [0, 0, 1])
        self.check(".a1b.", "abab", [0, 0, 0])
        self.check(".a1b.", "ab", [1])
        self.check("a1. .1a", "aa", [0])

    def test_numbers_beyond_the_gaps_tell_nothing(self):
        self.check("9a9", "a", [])
        self.check(".9a9.", "a", [])
        self.check("9ab9", "ab", [0])
        self.check(".9ab9.", "ab", [0])
        self.check("9a", "aba", [0, 9])
        self.check("a9", "aba", [9, 0])

    def test_the_greatest_wins(self):
        self.check("a1b a2b", "ab", [2])
        self.check("a3b a2b", "ab", [3])
        self.check("a1bc b2 1c .ab3", "abc", [1, 3])
        self.check("a8 9b", "ab", [9])

    def test_two_of_the_same_signs_both_tell(self):
        self.check("a1bc ab1c", "abc", [1, 1])
        self.check("a1b2c a2b1c", "abc", [2, 2])
        self.check("a1b a1b", "ab", [1])

    def test_a_known_word(self):
        texts = "hy3ph he2n hena4 hen5at 1na n2at 1tio 2io o2n"
        self.check(texts, "hyphenation", [0, 3, 0, 0, 2, 5, 4, 2, 0, 2])
        self.assertEqual(breaks(listed(texts), "hyphenation"), (2, 6))

    def test_a_word_of_one_letter(self):
        self.check("1a1 .1a1. a .a a.", "a", [])
        self.assertEqual(breaks(listed("1a1"), "a"), ())

    def test_a_word_of_twenty_letters(self):
        told = [0] * 19
        told[0], told[9], told[18] = 5, 2, 7
        self.check(".a5b j2 7t. 6t", TWENTY, told)
        whole = (TWENTY, tuple(place % 10 for place in range(21)))
        self.assertEqual(values([whole], TWENTY), [place % 10 for place in range(1, 20)])
        framed = ("." + TWENTY + ".", (0,) + (9,) * 21 + (0,))
        self.assertEqual(values([framed], TWENTY), [9] * 19)
        self.assertEqual(breaks([framed], TWENTY), tuple(range(1, 20)))

    def test_words_and_lists_beyond_the_bounds(self):
        self.assertEqual(values(listed("1a"), "a" * 45), [1] * 44)
        self.assertEqual(values(listed("1a") * 100 + listed("a2"), "aab"), [2, 2])

    def test_odd_values_alone_break(self):
        for number in range(10):
            patterns = [("ab", (0, number, 0))]
            self.assertEqual(values(patterns, "ab"), [number])
            self.assertEqual(breaks(patterns, "ab"), (1,) if number in (1, 3, 5, 7, 9) else ())

    def test_kinds_that_are_told(self):
        self.assertIs(type(values(listed("a1b"), "ab")), list)
        self.assertIs(type(breaks(listed("a1b"), "ab")), tuple)
        self.assertEqual(breaks(listed("1b1 2c"), "abcbb"), (1, 3, 4))

    def test_another_order_tells_the_same(self):
        patterns = listed("a1b .a2b b3c. 1b a1bc")
        orders = list(itertools.permutations(patterns))
        for word in ("ab", "abc", "aabc", "abcab"):
            told = values(list(patterns), word)
            told_gaps = breaks(list(patterns), word)
            for others in orders:
                self.assertEqual(values(list(others), word), told)
                self.assertEqual(breaks(list(others), word), told_gaps)

    def test_all_small_patterns_by_the_plain_reading(self):
        words = ["".join(letters) for length in range(1, 6) for letters in itertools.product("ab", repeat=length)]
        framings = ["".join(signs) for length in range(1, 5) for signs in itertools.product("ab.", repeat=length)]
        kept = []
        for signs in framings:
            inner = tuple((place * 5 + len(signs)) % 9 + 1 for place in range(len(signs) + 1))
            first = (0,) + inner[1:] if signs.startswith(".") else inner
            numbers = first[:-1] + (0,) if signs.endswith(".") else first
            if is_pattern((signs, numbers)):
                kept.append((signs, numbers))
        self.assertGreater(len(kept), 50)
        for word in words:
            for pattern in kept:
                self.assertEqual(values([pattern], word), plain_values([pattern], word))
            for step in (1, 2, 3, 7):
                self.assertEqual(values(kept[::step], word), plain_values(kept[::step], word))


class Kept(unittest.TestCase):
    def test_what_is_handed_in_stays(self):
        patterns = listed("a1b .a2 b3c. 1b a1b")
        before = copy.deepcopy(patterns)
        values(patterns, "abcab")
        breaks(patterns, "abcab")
        self.assertEqual(patterns, before)

    def test_a_told_list_is_the_askers_own(self):
        patterns = listed("a1b")
        told = values(patterns, "abab")
        told[0] = 8
        told.append(9)
        self.assertEqual(values(patterns, "abab"), [1, 0, 1])
        self.assertEqual(breaks(patterns, "abab"), (1, 3))
        self.assertIsNot(values(patterns, "abab"), values(patterns, "abab"))

    def test_an_empty_told_list_is_the_askers_own(self):
        told = values([], "a")
        told.append(1)
        self.assertEqual(values([], "a"), [])
        self.assertEqual(values(listed("1a"), "a"), [])

    def test_what_is_done_to_the_patterns_later_changes_no_told_list(self):
        patterns = listed("a1b")
        told = values(patterns, "ab")
        patterns.append(read_pattern("a2b"))
        self.assertEqual(told, [1])
        self.assertEqual(values(patterns, "ab"), [2])


if __name__ == "__main__":
    unittest.main()
