import copy
import unittest

from breakwords.levels import learnt_at, level
from breakwords.patterns import is_pattern, shown_pattern
from tests.helper import drawn_patterns, drawn_words, listed, listed_words, plain_learnt_at, plain_level

# Words, patterns ahead, the number, the length, the cost, and what is learnt.
LEARNT = [
    # No words, no gaps, nothing missed or nothing wrong: nothing is learnt.
    ("", "", 1, 1, 1, ""),
    ("", "1a", 2, 1, None, ""),
    ("a", "", 1, 1, 1, ""),
    ("a b c", "1a1", 2, 2, 1, ""),
    ("ab", "", 1, 1, 1, ""),
    ("ab", "", 2, 1, 1, ""),
    ("a-b", "", 2, 2, None, ""),
    ("a-b", "a1", 1, 1, 1, ""),
    ("a-b", "a1", 2, 1, 1, ""),
    # Each length of one word, with full stops ahead and behind, the number at an end and within.
    ("a-b", "", 1, 1, 1, "a1 1b"),
    ("a-b", "", 1, 2, 1, ".a1 a1b 1b."),
    ("a-b", "", 1, 3, 1, ".a1b a1b."),
    ("a-b", "", 1, 4, 1, ".a1b."),
    ("a-b", "", 1, 5, 1, ""),
    ("a-b", "", 1, 14, None, ""),
    ("abcd-efghijkl", "", 1, 14, None, ".abcd1efghijkl."),
    ("abcdefghijk-l", "", 1, 13, None, ".abcdefghijk1l abcdefghijk1l."),
    ("abcdefghijk-l", "", 1, 15, None, ""),
    ("a-bc", "", 1, 2, 1, ".a1 a1b 1bc"),
    ("ab-c", "", 1, 2, 1, "ab1 b1c 1c."),
    # The level's number stands there.
    ("a-b", "", 9, 1, 1, "a9 9b"),
    ("a-b", "4b", 5, 2, None, ".a5 a5b 5b."),
    ("ab", "a7", 8, 1, None, "a8 8b"),
    # Sorted as tuples are: signs first, then numbers.
    ("b-aa", "", 1, 1, 1, "1a b1"),
    ("aa-a", "", 1, 1, 1, "1a a1"),
    ("z-b c-y", "", 1, 1, None, "1b c1 1y z1"),
    # a1 has the good 2 and the bad 1.
    ("a-x a-y az", "", 1, 1, 1, "a1 1x 1y"),
    ("a-x a-y az", "", 1, 1, 2, "a1 1x 1y"),
    ("a-x a-y az", "", 1, 1, 3, "1x 1y"),
    ("a-x a-y az", "", 1, 1, 1000, "1x 1y"),
    ("a-x a-y az", "", 1, 1, None, "1x 1y"),
    # The good 1 and the bad 2.
    ("a-x ay az", "", 1, 1, 1, "1x"),
    # The good 3, and the bad 0 or 1.
    ("a-x a-y a-z", "", 1, 1, None, "a1 1x 1y 1z"),
    ("a-x a-y a-z ab", "", 1, 1, 3, "a1 1x 1y 1z"),
    ("a-x a-y a-z ab", "", 1, 1, 4, "1x 1y 1z"),
    # What is told and broken, or wrong already, counts for nothing at an odd level.
    ("a-x a-y az", "x1 1y", 1, 1, 1, "a1 1x"),
    ("a-x a-y az", "1y", 1, 1, 2, "1x"),
    ("a-x a-y az", "1z", 1, 1, 1000, "a1 1x 1y"),
    ("a-x az", "1z", 3, 1, None, "a3 3x"),
    # An even level: a2 has the good 2 and the bad 1.
    ("a-x ay az", "a1", 2, 1, 1, "a2 2y 2z"),
    ("a-x ay az", "a1", 2, 1, 2, "a2 2y 2z"),
    ("a-x ay az", "a1", 2, 1, 3, "2y 2z"),
    ("a-x ay az", "a1", 2, 1, None, "2y 2z"),
    ("ax ay az", "a1", 2, 1, None, "a2 2x 2y 2z"),
    # What is told and missed, or neither told nor broken, counts for nothing at an even level.
    ("a-x ay az", "1y", 2, 1, None, "a2 2y"),
    ("a-x ay", "1y 1x", 2, 1, None, "2y"),
    ("a-x ay", "1y 1x", 4, 2, 1, ".a4 a4y 4y."),
    # Several gaps of one word.
    ("a-a-a", "", 1, 1, None, "1a a1"),
    ("a-aa", "", 1, 1, 1, "1a a1"),
    ("a-aa", "", 1, 1, 2, ""),
    ("aa-aa", "", 1, 2, 1, "1aa aa1"),
    ("aa-aa", "", 1, 2, 2, ""),
    ("aa-aa", "", 1, 3, 1, "1aa. .aa1 a1aa aa1a"),
    ("aa-aa", "", 1, 3, None, "1aa. .aa1"),
    ("a-a-aa", "", 1, 2, 2, ".a1 1aa a1a"),
    ("a-a-aa", "", 1, 2, 3, ".a1 1aa"),
]

# Words, patterns ahead, the number, the most, the cost, and what is learnt.
LEVELS = [
    ("", "", 1, 14, 1, ""),
    ("a b", "", 1, 14, None, ""),
    # What a length has learnt is not missed by the next one.
    ("a-b", "", 1, 1, 1, "a1 1b"),
    ("a-b", "", 1, 14, 1, "a1 1b"),
    ("a-b ac db", "", 1, 1, None, ""),
    ("a-b ac db", "", 1, 2, None, "a1b"),
    ("a-b ac db", "", 1, 14, None, "a1b"),
    ("a-b ab-a", "", 1, 2, 1, "a1 1a b1 1b"),
    ("a-b ab-a", "", 1, 2, None, "1a b1 1b."),
    # The lengths stand one behind the other, each sorted by itself.
    ("z-q a-b ac db", "", 1, 14, None, "1q z1 a1b"),
    ("ab-c a-bd b-cc a-bca", "", 1, 3, None, ".b1 1bd 1cc b1c. 1bca"),
    # What stood ahead is not told again.
    ("a-b", "1b", 1, 3, 1, ""),
    ("a-b c-d", "1b", 3, 3, None, "c3 3d"),
    # An even level.
    ("a-b ac db", "a1 1b", 2, 14, None, "2c d2"),
    ("a-b ca-ba a-bd", "a1b b1d", 2, 14, None, "b2 2d"),
    ("ab", "a1b", 2, 14, None, "a2 2b"),
]


def shown(patterns):
    return " ".join(shown_pattern(pattern) for pattern in patterns)


class LearntAt(unittest.TestCase):
    def test_known_ones(self):
        for words, patterns, number, length, cost, learnt in LEARNT:
            with self.subTest(words=words, patterns=patterns, number=number, length=length, cost=cost):
                told = learnt_at(listed_words(words), listed(patterns), number, length, cost)
                self.assertIs(type(told), list)
                self.assertEqual(sorted(told), sorted(listed(learnt)))
                self.assertEqual(told, sorted(told))

    def test_by_plain_reading(self):
        lengths = []
        for seed in range(150):
            words = drawn_words(seed, seed % 8, "aab"[seed % 2:], 2 + seed % 6)
            patterns = drawn_patterns(seed, seed % 4, "ab", 3, 4)
            number, length, cost = 1 + seed % 9, 1 + seed % 7, (1, 2, None, 3, 1000)[seed % 5]
            told = learnt_at(words, patterns, number, length, cost)
            self.assertEqual(told, plain_learnt_at(words, patterns, number, length, cost))
            self.assertTrue(all(is_pattern(pattern) for pattern in told))
            lengths += [len(signs) for signs, _numbers in told]
        self.assertGreater(min(lengths.count(length) for length in range(1, 7)), 0)

    def test_no_full_stop_has_a_number_on_its_outer_side(self):
        for length in range(1, 15):
            for number in (1, 2):
                patterns = listed("" if number == 1 else "a1 1a")
                words = listed_words("a-a a-a-a-a" if number == 1 else "aa aaaa")
                for pattern in learnt_at(words, patterns, number, length, 1):
                    self.assertTrue(is_pattern(pattern))
                    self.assertEqual(len(pattern[0]), length)
                    self.assertEqual(sorted(pattern[1]), [0] * length + [number])


class Level(unittest.TestCase):
    def test_known_ones(self):
        for words, patterns, number, most, cost, learnt in LEVELS:
            with self.subTest(words=words, patterns=patterns, number=number, most=most, cost=cost):
                told = level(listed_words(words), listed(patterns), number, most, cost)
                self.assertIs(type(told), list)
                self.assertEqual(shown(told), learnt)

    def test_by_plain_reading(self):
        several = 0
        for seed in range(80):
            words = drawn_words(seed, 1 + seed % 7, ("aab", "ab", "abc")[seed % 3], 3 + seed % 5)
            patterns = drawn_patterns(seed, seed % 4, "ab", 3, 4)
            number, most, cost = 1 + seed % 9, 1 + seed % 10, (1, None, 2, 5)[seed % 4]
            told = level(words, patterns, number, most, cost)
            self.assertEqual(told, plain_level(words, patterns, number, most, cost))
            several += len({len(signs) for signs, _numbers in told}) > 1
        self.assertGreater(several, 10)

    def test_12_words_of_12_letters(self):
        words = [(word, gaps) for word, gaps in drawn_words(1, 200, "ab", 12) if len(word) == 12][:12]
        self.assertEqual(len(words), 12)
        told = level(words, [], 1, 14, None)
        self.assertEqual(told, plain_level(words, [], 1, 14, None))


class Kept(unittest.TestCase):
    def test_what_is_handed_in_stays(self):
        for ask, known in ((learnt_at, LEARNT), (level, LEVELS)):
            for texts, signs, number, many, cost, _learnt in known:
                words, patterns = listed_words(texts), listed(signs)
                before = copy.deepcopy((words, patterns))
                ask(words, patterns, number, many, cost)
                self.assertEqual((words, patterns), before)

    def test_an_emptied_told_list_changes_no_later_answer(self):
        for ask, known in ((learnt_at, LEARNT), (level, LEVELS)):
            for texts, signs, number, many, cost, _learnt in known:
                words, patterns = listed_words(texts), listed(signs)
                told = ask(words, patterns, number, many, cost)
                before = list(told)
                told.clear()
                told.append(("z", (0, 1)))
                self.assertEqual(ask(words, patterns, number, many, cost), before)


if __name__ == "__main__":
    unittest.main()
