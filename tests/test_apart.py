import copy
import random
import unittest

from breakwords.apart import apart
from breakwords.values import breaks
from tests.helper import SMALL_LETTERS, check_told, drawn_patterns, listed

APART = [
    ("a1b", ""),
    ("", "a1b"),
    ("1a", "2a"),
    ("a1b", "a1b a2b"),
    ("a1b 2b", "a1b"),
    (".a1b", "a1b"),
    ("a1b.", "a1b"),
    (".a1b.", "a1b."),
    ("a1b c1d", "a1b c1d .x1y."),
    ("a1bcdef", "a1bcde"),
    ("abcde1f", "bcde1f"),
    ("1abcdef", "1abcde"),
    (".a1bcd.", ".a1bcd"),
    ("1x", "1x 8x"),
    # Only where two patterns fit at one gap do these break otherwise.
    ("1aaa aaa3", "1aaa 2aaa aaa3"),
    ("a1aaa aaa2aa", "a1aaa"),
]

SAME = [
    ("", ""),
    ("a1b", "a1b"),
    ("a1b", "a3b"),
    ("a2b", ""),
    ("ab", ""),
    (".2a 4c. b8", "a6"),
    ("a1b b2a .a1", ".a1 a1b b2a"),
    ("a1b", "a1b a1b"),
    ("a1b a1b a1b", "a1b"),
    ("1b", "1b a1b"),
    ("1b", "1b .a1b a1bc 1b."),
    ("a3b", "a3b a1b a2b"),
    ("a1b2c a2b1c", "a2b2c"),
    ("9a", "9a 1a a2a .a3a."),
    # What stands ahead of the first letter or behind the last one is no gap.
    (".1a", ""),
    ("a1.", ""),
    (".9a9.", ".5a5."),
    (".1abcd.", "abcd9."),
]


class Told(unittest.TestCase):
    def check(self, one, other):
        told = apart(one, other)
        check_told(self, one, other, told)
        return told[0]

    def test_lists_that_are_apart(self):
        for texts, other_texts in APART:
            with self.subTest(one=texts, other=other_texts):
                one, other = listed(texts), listed(other_texts)
                self.assertEqual(self.check(one, other), "word")
                word = apart(one, other)[1]
                self.assertNotEqual(breaks(one, word), breaks(other, word))

    def test_lists_that_are_not(self):
        for texts, other_texts in SAME:
            with self.subTest(one=texts, other=other_texts):
                self.assertEqual(self.check(listed(texts), listed(other_texts)), "same")

    def test_numbers_behind_a_letter_reach_strange_letters(self):
        # The first list breaks ahead of any letter behind an a, those that stand in no pattern too.
        self.assertEqual(self.check(listed("a1"), listed("a1a a1b a1c")), "word")
        self.assertEqual(self.check(listed("1a 1b a1"), listed("1a 1b")), "word")
        self.assertEqual(self.check(listed("1a 1b a1"), listed("1a 1b a1 a1b")), "same")

    def test_no_patterns(self):
        tag, views = apart([], [])
        self.assertEqual(tag, "same")
        self.assertEqual(len(views), 2)
        self.assertEqual(set(views), {("", None, 0, 0), ("", 0, 0, 0)})

    def test_views_of_a_small_list(self):
        tag, views = apart(listed("a1b"), listed("a1b"))
        self.assertEqual(tag, "same")
        self.assertEqual(len(views), 9)
        self.assertEqual(set(views), {
            ("", None, 0, 0), ("a", None, 0, 0), ("ab", None, 0, 0),
            ("", 0, 0, 0), ("a", 0, 0, 0), ("ab", 0, 0, 0),
            ("a", 1, 0, 0), ("ab", 1, 1, 1), ("ab", 2, 0, 0),
        })

    def test_turned_about(self):
        for texts, other_texts in APART + SAME:
            one, other = listed(texts), listed(other_texts)
            self.assertEqual(self.check(one, other), self.check(other, one), (texts, other_texts))

    def test_another_order_and_a_pattern_twice(self):
        for seed in range(25):
            one = drawn_patterns(seed, 1 + seed % 12, "abc"[:1 + seed % 3], 6)
            other = list(one)
            random.Random(seed).shuffle(other)
            self.assertEqual(self.check(one, other), "same")
            self.assertEqual(self.check(one, one + one[:1]), "same")
            self.assertEqual(self.check(one + one[1:], one), "same")

    def test_one_more_that_tells_nothing_new(self):
        for seed in range(25):
            one = drawn_patterns(seed, 1 + seed % 9, "abc", 5)
            signs, numbers = one[-1]
            longer = one[-1] if signs.endswith(".") else (signs + "d", numbers + (0,))
            lesser = (signs, tuple(max(number - 2, 0) for number in numbers))
            self.assertEqual(self.check(one, [longer] + one), "same")
            self.assertEqual(self.check(one, one + [lesser]), "same")

    def test_patterns_in_which_all_letters_stand(self):
        parts = ["abcdef", "ghijkl", "mnopqr", "stuvwx", "yz"]
        one = [(signs, (0,) + (1,) * (len(signs) - 1) + (0,)) for signs in parts]
        other = [(signs, (0,) + (3,) * (len(signs) - 1) + (0,)) for signs in parts]
        self.assertEqual(self.check(one, other), "same")
        self.assertEqual(self.check(one, one[:-1]), "word")
        self.assertEqual(self.check(one, one[:-1] + listed("yz")), "word")
        self.assertEqual(self.check(one, list(reversed(other))), "same")

    def test_all_letters_leave_no_strange_one(self):
        # Where each letter stands behind some gap, a break ahead of all of them is one behind any letter.
        one = [("a", (0, 1))] + [("b" + SMALL_LETTERS[place:place + 5], (0,) * 7) for place in (2, 7, 12, 17, 21)]
        other = [("a" + letter, (0, 1, 0)) for letter in SMALL_LETTERS]
        self.assertEqual(self.check(one, other), "same")
        self.assertEqual(self.check(other, one), "same")
        self.assertEqual(self.check(one, other[:-1]), "word")

    def test_a_word_of_more_than_20_letters(self):
        # Somewhat beyond the bounds, but nothing is refused for it.
        signs = "." + SMALL_LETTERS[:21]
        one = [(signs, (0,) * 21 + (1, 0))]
        tag, word = apart(one, [])
        self.assertEqual((tag, word), ("word", SMALL_LETTERS[:21]))

    def test_drawn_lists(self):
        tags = []
        for seed in range(150):
            letters = "abc"[:1 + seed % 3]
            one = drawn_patterns(seed, 1 + seed % 4, letters, 1 + seed % 3, 2 + seed % 3)
            other = drawn_patterns(seed + 1000, 1 + seed % 5, letters, 1 + seed % 3, 2 + seed % 3)
            tags.append(self.check(one, other))
        self.assertGreater(tags.count("same"), 10)
        self.assertGreater(tags.count("word"), 10)

    def test_24_patterns_of_6_signs(self):
        for letters in ("a", "ab", "abc", SMALL_LETTERS):
            patterns = drawn_patterns(7, 12, letters, 6)
            self.assertEqual(self.check(patterns, list(reversed(patterns))), "same")
            self.assertIn(self.check(patterns, drawn_patterns(8, 12, letters, 6)), ("same", "word"))
            self.assertIn(self.check(patterns + drawn_patterns(8, 12, letters, 6), []), ("same", "word"))


class Kept(unittest.TestCase):
    def test_what_is_handed_in_stays(self):
        for texts, other_texts in APART + SAME:
            one, other = listed(texts), listed(other_texts)
            before = copy.deepcopy((one, other))
            apart(one, other)
            self.assertEqual((one, other), before)

    def test_an_emptied_told_list_changes_no_later_answer(self):
        for texts, other_texts in SAME:
            one, other = listed(texts), listed(other_texts)
            told = apart(one, other)
            told[1].clear()
            self.assertGreater(len(apart(one, other)[1]), 1)
            check_told(self, one, other, apart(one, other))


if __name__ == "__main__":
    unittest.main()
