import copy
import unittest

from breakwords.apart import apart
from breakwords.pared import needless, pared
from breakwords.values import breaks
from tests.helper import SMALL_LETTERS, check_told, drawn_patterns, drawn_word, listed

# Each with the numbers that are left.
PARED = [
    ("", []),
    # None is struck.
    ("a1b", [0]),
    ("a1b c1d", [0, 1]),
    ("1a a2a", [0, 1]),
    ("1b a2b ca3b", [0, 1, 2]),
    # All are.
    ("a2b", []),
    ("ab", []),
    ("a2 4b .6c. d8e", []),
    (".1a a1. ab .9a9.", []),
    # Some are.
    ("1a .2a 3b", [0, 2]),
    ("a1b 1b", [1]),
    ("1b a1b", [0]),
    # Of two alike the first one goes.
    ("a1b a1b", [1]),
    ("a1b c1d a1b a1b", [1, 3]),
    # The first one is needed against a later one, which is struck: it goes in the second round.
    ("a2b a1b", []),
    ("a4b x1y a3b", [1]),
    ("2a 1b 1a 1a", [1]),
    # Each is needed against the next one, and the last one alone is needless: it takes three rounds.
    ("x4a x3a2b xa1b", []),
]


def without(patterns, number):
    return [pattern for at, pattern in enumerate(patterns) if at != number]


def plain_rounds(patterns):
    left = list(range(len(patterns)))
    rounds = 0
    struck = True
    while struck:
        rounds += 1
        struck = False
        for number in list(left):
            those = [patterns[at] for at in left]
            others = [patterns[at] for at in left if at != number]
            if apart(those, others)[0] == "same":
                left = [at for at in left if at != number]
                struck = True
    return left, rounds


class Needless(unittest.TestCase):
    def check(self, patterns, number):
        told = needless(patterns, number)
        check_told(self, patterns, without(patterns, number), told)
        return told[0]

    def test_each_number_of_a_list(self):
        patterns = listed("a1b 1b c1d c2d .c1d a1b")
        self.assertEqual(
            [self.check(patterns, number) for number in range(6)],
            ["same", "word", "same", "word", "same", "same"],
        )

    def test_one_alone(self):
        self.assertEqual(self.check(listed("a1b"), 0), "word")
        self.assertEqual(self.check(listed("a2b"), 0), "same")
        self.assertEqual(self.check(listed("ab"), 0), "same")

    def test_numbers_go_from_0(self):
        patterns = listed("a1b b2c d3e")
        self.assertEqual([self.check(patterns, number) for number in range(3)], ["word", "same", "word"])
        word = needless(patterns, 2)[1]
        self.assertIn("de", word)

    def test_of_two_alike_each_is_needless(self):
        patterns = listed("a1b a1b")
        self.assertEqual([self.check(patterns, 0), self.check(patterns, 1)], ["same", "same"])

    def test_a_lesser_number_under_a_greater_one(self):
        patterns = listed("a1b a2b a3b")
        self.assertEqual([self.check(patterns, number) for number in range(3)], ["same", "same", "word"])

    def test_drawn_lists(self):
        tags = []
        for seed in range(40):
            patterns = drawn_patterns(seed, 1 + seed % 8, "abc"[:1 + seed % 3], 1 + seed % 6, 4)
            tags += [self.check(patterns, number) for number in range(len(patterns))]
        self.assertGreater(tags.count("same"), 10)
        self.assertGreater(tags.count("word"), 10)


class Pared(unittest.TestCase):
    def check(self, patterns):
        left = pared(patterns)
        self.assertIs(type(left), list)
        self.assertEqual(left, sorted(set(left)))
        self.assertEqual(left, plain_rounds(patterns)[0])
        those = [patterns[number] for number in left]
        self.assertEqual(apart(patterns, those)[0], "same")
        for number in range(len(those)):
            tag, word = needless(those, number)
            self.assertEqual(tag, "word")
            self.assertNotEqual(breaks(those, word), breaks(without(those, number), word))
        return left

    def test_known_lists(self):
        for texts, left in PARED:
            with self.subTest(patterns=texts):
                self.assertEqual(self.check(listed(texts)), left)

    def test_one_round_is_the_last_one_where_none_is_struck(self):
        self.assertEqual(plain_rounds(listed("a1b c1d")), ([0, 1], 1))
        self.assertEqual(pared(listed("a1b c1d")), [0, 1])

    def test_lists_that_want_more_rounds(self):
        for texts, left, rounds in (
            ("a1b a1b", [1], 2),
            ("a2b a1b", [], 3),
            ("a4b x1y a3b", [1], 3),
            ("x4a x3a2b xa1b", [], 4),
        ):
            self.assertEqual(plain_rounds(listed(texts)), (left, rounds))
            self.assertEqual(pared(listed(texts)), left)

    def test_drawn_lists(self):
        for seed in range(40):
            self.check(drawn_patterns(seed, 1 + seed % 12, "abc"[:1 + seed % 3], 1 + seed % 6, 5))

    def test_12_patterns_of_6_signs(self):
        for letters in ("a", "ab", "abcd", SMALL_LETTERS):
            patterns = [pattern for pattern in drawn_patterns(3, 200, letters, 6) if len(pattern[0]) == 6][:12]
            self.assertEqual(len(patterns), 12)
            self.check(patterns)

    def test_words_break_as_before(self):
        for seed in range(20):
            patterns = drawn_patterns(seed, 12, "ab", 6)
            those = [patterns[number] for number in pared(patterns)]
            for length in range(1, 21):
                word = drawn_word(seed * 100 + length, "abc", length)
                self.assertEqual(breaks(those, word), breaks(patterns, word))


class Kept(unittest.TestCase):
    def test_what_is_handed_in_stays(self):
        for texts, _left in PARED:
            patterns = listed(texts)
            before = copy.deepcopy(patterns)
            pared(patterns)
            for number in range(len(patterns)):
                needless(patterns, number)
            self.assertEqual(patterns, before)

    def test_an_emptied_told_list_changes_no_later_answer(self):
        for texts, left in PARED:
            patterns = listed(texts)
            told = pared(patterns)
            told.clear()
            told.append(7)
            self.assertEqual(pared(patterns), left)
        told = needless(listed("a2b"), 0)[1]
        before = sorted(told, key=repr)
        told.clear()
        self.assertEqual(sorted(needless(listed("a2b"), 0)[1], key=repr), before)


if __name__ == "__main__":
    unittest.main()
