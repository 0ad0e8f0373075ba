import copy
import unittest

from breakwords.breakers import Breaker
from breakwords.errors import Twice, WordError
from breakwords.learning import full
from tests.helper import drawn_patterns, drawn_word, drawn_words, listed, listed_words, plain_gaps

# Patterns, told words, head, tail, a word, and how it is shown.
SHOWN = [
    # By the patterns.
    ("", "", 1, 1, "a", "a"),
    ("", "", 1, 1, "abc", "abc"),
    ("1a1", "", 1, 1, "a", "a"),
    ("a1b", "", 1, 1, "ab", "a-b"),
    ("a1b", "", 1, 1, "ba", "ba"),
    ("a1b b2c", "", 1, 1, "abcab", "a-bca-b"),
    ("1b a2b", "", 1, 1, "abcb", "abc-b"),
    ("hy3ph hen5at", "", 1, 1, "hyphenation", "hy-phen-ation"),
    # Head and tail: as many letters at least.
    ("1a", "", 1, 1, "aaaaa", "a-a-a-a-a"),
    ("1a", "", 2, 1, "aaaaa", "aa-a-a-a"),
    ("1a", "", 1, 2, "aaaaa", "a-a-a-aa"),
    ("1a", "", 2, 3, "aaaaa", "aa-aaa"),
    ("1a", "", 3, 2, "aaaaa", "aaa-aa"),
    ("1a", "", 3, 3, "aaaaa", "aaaaa"),
    ("1a", "", 4, 1, "aaaaa", "aaaa-a"),
    ("1a", "", 5, 1, "aaaaa", "aaaaa"),
    ("1a", "", 1, 4, "aaaaa", "a-aaaa"),
    ("1a", "", 1, 5, "aaaaa", "aaaaa"),
    # Greater than the word.
    ("1a", "", 6, 1, "aaaaa", "aaaaa"),
    ("1a", "", 1, 6, "aaaaa", "aaaaa"),
    ("1a", "", 20, 20, "aaaaa", "aaaaa"),
    ("1a", "", 20, 20, "a", "a"),
    ("1a", "", 10, 10, "aaaaaaaaaaaaaaaaaaaa", "aaaaaaaaaa-aaaaaaaaaa"),
    # Told words, whatever head and tail.
    ("", "a-b", 1, 1, "ab", "a-b"),
    ("", "a-b", 20, 20, "ab", "a-b"),
    ("", "a-bcd-e", 2, 2, "abcde", "a-bcd-e"),
    ("", "a-b-c-d-e", 3, 3, "abcde", "a-b-c-d-e"),
    ("1c", "a-bcd-e", 1, 1, "abcde", "a-bcd-e"),
    # Told without gaps, though the patterns would break it.
    ("1a", "aaa", 1, 1, "aaa", "aaa"),
    ("1a1 a1b", "a ab a-a", 1, 1, "ab", "ab"),
    ("1a1 a1b", "a ab a-a", 1, 1, "a", "a"),
    # Others go by the patterns: a told word within them is nothing to them.
    ("1a", "aaa", 1, 1, "aaaa", "a-a-a-a"),
    ("1a", "aaa a-b", 2, 1, "aa", "aa"),
    ("", "a-b", 1, 1, "abc", "abc"),
]


class Shown(unittest.TestCase):
    def test_known_ones(self):
        for patterns, told, head, tail, word, text in SHOWN:
            with self.subTest(patterns=patterns, told=told, head=head, tail=tail, word=word):
                breaker = Breaker(listed(patterns), listed_words(told), head, tail)
                self.assertEqual(breaker.shown(word), text)
                gaps = breaker.gaps(word)
                self.assertIs(type(gaps), tuple)
                self.assertEqual([(word, gaps)], listed_words(text))

    def test_by_plain_reading(self):
        some = 0
        for seed in range(60):
            patterns = drawn_patterns(seed, seed % 8, "ab", 4, 5)
            told = drawn_words(seed, seed % 6, "ab", 5)
            for head, tail in ((1, 1), (2, 3), (1 + seed % 20, 1 + seed % 7)):
                breaker = Breaker(patterns, told, head, tail)
                for word, gaps in told:
                    self.assertEqual(breaker.gaps(word), gaps)
                for length in range(6, 21):
                    word = drawn_word(seed * 100 + length, "abc", length)
                    gaps = [gap for gap in plain_gaps(patterns, word) if gap >= head and length - gap >= tail]
                    self.assertEqual(breaker.gaps(word), tuple(gaps))
                    some += len(gaps)
        self.assertGreater(some, 1000)

    def test_learnt_patterns_break_as_listed(self):
        words = drawn_words(5, 12, "abc", 12)
        breaker = Breaker([pattern for pattern, _word in full(words, [(3, 1), (3, 2)])], [], 1, 1)
        for word, gaps in words:
            self.assertEqual(breaker.gaps(word), gaps)


class Refused(unittest.TestCase):
    def test_told_twice(self):
        for told, word in (
            # With the same gaps, with others.
            ("a a", "a"),
            ("a-b a-b", "ab"),
            ("ab a-b", "ab"),
            ("a-b ab", "ab"),
            ("a-bc d ab-c", "abc"),
            # The first that stands ahead already.
            ("a b b a", "b"),
            ("a b a b", "a"),
            ("c-d a-b x ab cd", "ab"),
            ("a a a", "a"),
            ("b c a-a c-c aa cc", "aa"),
        ):
            with self.subTest(told=told):
                with self.assertRaises(Twice) as refusal:
                    Breaker(listed("a1b"), listed_words(told), 1, 1)
                self.assertEqual(refusal.exception.word, word)
                self.assertIsInstance(refusal.exception, WordError)

    def test_unlike_words_are_not_refused(self):
        breaker = Breaker([], listed_words("a aa a-b b-a ab-a"), 1, 1)
        self.assertEqual([breaker.shown(word) for word in ("a", "aa", "ab", "ba", "aba")],
                         ["a", "aa", "a-b", "b-a", "ab-a"])

    def test_what_is_refused_changes_nothing(self):
        patterns, told = listed("a1b"), listed_words("a-b c a-b")
        before = copy.deepcopy((patterns, told))
        breaker = Breaker(patterns, told[:2], 1, 1)
        with self.assertRaises(Twice):
            Breaker(patterns, told, 1, 1)
        self.assertEqual((patterns, told), before)
        self.assertEqual((breaker.shown("ab"), breaker.shown("cab")), ("a-b", "ca-b"))


class Kept(unittest.TestCase):
    def test_lists_may_be_changed_afterwards(self):
        patterns, told = listed("a1b"), listed_words("c-d")
        breaker = Breaker(patterns, told, 1, 1)
        patterns.append(listed("x1y")[0])
        patterns[0] = listed("a2b")[0]
        told.append(("ab", ()))
        told[0] = ("cd", ())
        for _time in range(2):
            self.assertEqual(
                [breaker.shown(word) for word in ("ab", "cd", "xy", "cdab")],
                ["a-b", "c-d", "xy", "cda-b"],
            )
            self.assertEqual([breaker.gaps(word) for word in ("ab", "cd", "xy")], [(1,), (1,), ()])
            patterns.clear()
            told.clear()

    def test_what_is_handed_in_stays(self):
        for signs, texts, head, tail, word, _text in SHOWN:
            patterns, told = listed(signs), listed_words(texts)
            before = copy.deepcopy((patterns, told))
            breaker = Breaker(patterns, told, head, tail)
            breaker.gaps(word)
            breaker.shown(word)
            self.assertEqual((patterns, told), before)

    def test_two_breakers_keep_apart(self):
        one = Breaker(listed("a1b"), listed_words("cd"), 1, 1)
        other = Breaker(listed("c1d"), listed_words("ab"), 2, 2)
        self.assertEqual((one.shown("ab"), one.shown("cd"), one.shown("xab")), ("a-b", "cd", "xa-b"))
        self.assertEqual((other.shown("ab"), other.shown("cd"), other.shown("xcdx")), ("ab", "cd", "xc-dx"))


if __name__ == "__main__":
    unittest.main()
