import copy
import unittest

from breakwords.lists import missed, wrong
from tests.helper import drawn_patterns, drawn_words, listed, listed_words, plain_gaps

# Words and patterns, with what is missed and what is wrong.
KNOWN = [
    ("", "", [], []),
    ("", "a1b 1c .1d", [], []),
    # No patterns: what is told is missed.
    ("a", "", [], []),
    ("ab", "", [], []),
    ("a-b", "", [("ab", 1)], []),
    ("a-b-c", "", [("abc", 1), ("abc", 2)], []),
    ("b-c ab a-bc-d", "", [("bc", 1), ("abcd", 1), ("abcd", 3)], []),
    # All as listed.
    ("a-b b-a c", "a1b b1a 1c", [], []),
    # A word of one letter has no gap, whatever the patterns tell.
    ("a", "1a1 .1a1.", [], []),
    # All that is told is missed, all else is wrong.
    ("a-bc", "b1c", [("abc", 1)], [("abc", 2)]),
    ("a-bc-d", "b1c", [("abcd", 1), ("abcd", 3)], [("abcd", 2)]),
    ("abc", "1b1", [], [("abc", 1), ("abc", 2)]),
    # An even number lets no word be broken, and beats a lesser odd one.
    ("a-b ab", "a2b", [("ab", 1)], []),
    ("a-b c-b", "1b a2b", [("ab", 1)], []),
    ("a-b cb", "1b a2b a3b.", [], [("cb", 1)]),
    # The list's order, not that of the letters, and gaps rising.
    ("za-zb ab-c-d aa", "z1 1b 1a", [("zazb", 2), ("abcd", 2), ("abcd", 3)], [("zazb", 1), ("zazb", 3),
                                                                            ("abcd", 1), ("aa", 1)]),
]


class Known(unittest.TestCase):
    def test_missed(self):
        for words, patterns, gaps, _others in KNOWN:
            with self.subTest(words=words, patterns=patterns):
                told = missed(listed_words(words), listed(patterns))
                self.assertIs(type(told), list)
                self.assertEqual(told, gaps)

    def test_wrong(self):
        for words, patterns, _others, gaps in KNOWN:
            with self.subTest(words=words, patterns=patterns):
                told = wrong(listed_words(words), listed(patterns))
                self.assertIs(type(told), list)
                self.assertEqual(told, gaps)


class Drawn(unittest.TestCase):
    def test_by_plain_reading(self):
        some = [0, 0]
        for seed in range(100):
            words = drawn_words(seed, seed % 13, "abc", 12)
            patterns = drawn_patterns(seed, seed % 7, "abc", 1 + seed % 4, 5)
            lacking, beyond = [], []
            for word, gaps in words:
                broken = plain_gaps(patterns, word)
                lacking += [(word, gap) for gap in range(1, 12) if gap in gaps and gap not in broken]
                beyond += [(word, gap) for gap in range(1, 12) if gap in broken and gap not in gaps]
            self.assertEqual(missed(words, patterns), lacking)
            self.assertEqual(wrong(words, patterns), beyond)
            some = [some[0] + len(lacking), some[1] + len(beyond)]
        self.assertGreater(min(some), 100)


class Kept(unittest.TestCase):
    def test_what_is_handed_in_stays(self):
        for texts, signs, _missed, _wrong in KNOWN:
            words, patterns = listed_words(texts), listed(signs)
            before = copy.deepcopy((words, patterns))
            missed(words, patterns)
            wrong(words, patterns)
            self.assertEqual((words, patterns), before)

    def test_an_emptied_told_list_changes_no_later_answer(self):
        for texts, signs, lacking, beyond in KNOWN:
            words, patterns = listed_words(texts), listed(signs)
            for ask, gaps in ((missed, lacking), (wrong, beyond)):
                told = ask(words, patterns)
                told.clear()
                told.append(("zz", 1))
                self.assertEqual(ask(words, patterns), gaps)


if __name__ == "__main__":
    unittest.main()
