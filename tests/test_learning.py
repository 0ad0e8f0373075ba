import copy
import unittest

from breakwords.learning import full, taught
from breakwords.lists import missed, wrong
from breakwords.patterns import is_pattern, shown_pattern
from tests.helper import drawn_words, listed_words, plain_breaks, plain_gaps, plain_level

# Words, levels, and what they teach.
TAUGHT = [
    ("", [], ""),
    ("", [(14, 1), (14, None)], ""),
    ("a-b", [], ""),
    ("a b", [(14, 1)] * 6, ""),
    ("ab", [(14, 1)] * 6, ""),
    ("a-b", [(1, 1)], "a1 1b"),
    ("a-b", [(4, None)] * 6, "a1 1b"),
    # Each level sets right what the one ahead broke.
    ("a-b ac", [(1, 1)], "a1 1b"),
    ("a-b ac", [(1, 1)] * 2, "a1 1b a2 2c"),
    ("a-b ac", [(1, 1)] * 3, "a1 1b a2 2c a3 3b"),
    ("a-b ac", [(1, 1)] * 6, "a1 1b a2 2c a3 3b a4 4c a5 5b a6 6c"),
    ("a-b ac", [(1, 1), (1, None), (1, 1)], "a1 1b 2c"),
    ("a-b ac", [(1, 1), (1, 2), (1, 1)], "a1 1b 2c"),
    # A level that learns nothing has its number, too.
    ("a-b ac db", [(1, None), (1, 1), (2, None)], "a3b"),
    ("a-b ac db", [(1, 2), (1, 1), (1, 1)], "a3 3b"),
    # Lengths go from 1 to each level's own most.
    ("a-b ac db", [(1, 2), (1, 1), (1, 1), (2, None)], "a3 3b 4c d4"),
    ("a-b ac db cb-a", [(1, None), (1, None), (3, None)], "1a b1 a3b"),
]

# Words, levels, and the full patterns, each with its word behind a colon.
FULL = [
    ("", [], ""),
    ("", [(14, 1)] * 6, ""),
    # No gaps, or none told and none broken.
    ("a", [], ""),
    ("a b c", [(14, 1)] * 3, ""),
    ("ab", [], ""),
    ("ab", [(14, 1)], ""),
    # The two last numbers, by the count of levels: 3 is the first odd one above 2, 5 above 4, 7 above 6, 9 above 8.
    ("a-b ac", [], "3b:ab"),
    ("a-b ac db", [], "a3b:ab"),
    ("a-b ac db", [(1, None)], "a3b:ab"),
    ("a-b ac db", [(1, None)] * 2, "a5b:ab"),
    ("a-b ac db", [(1, None)] * 3, "a5b:ab"),
    ("a-b ac db", [(1, None)] * 4, "a7b:ab"),
    ("a-b ac db", [(1, None)] * 5, "a7b:ab"),
    ("a-b ac db", [(1, None)] * 6, "a9b:ab"),
    # From the last one on: 2c is wanted against a1, 1b is not beside a1, a1 then is.
    ("a-b ac", [(1, 1)], "a1:ab 2c:ac"),
    # a2 and 2c of the second level are wanted against a1, 5b against them: 5b alone stays.
    ("a-b ac", [(1, 1)] * 2, "5b:ab"),
    # 2c is wanted against a1, which goes later in the same round, as 1b stays for db: 2c goes in the next one.
    ("a-b ac d-b", [(1, 1)], "1b:ab"),
    ("d-b ac a-b", [(1, 1)], "1b:db"),
    # a4 is wanted against 3a, which goes in the second round alone: a4 goes in the third one.
    ("b-b b-a aa", [(2, 1), (1, 1), (1, 1), (1, None)], "b1:bb"),
    # The even one of the two goes against what the levels broke.
    ("a-x a-y az", [(1, 1)], "a1:ax 2z:az"),
    ("a-x a-y az", [(1, 1), (1, 1000), (1, None)], "a1:ax 2z:az"),
    ("az a-y a-x", [(1, 1)], "a1:ay 2z:az"),
    # As long as a whole word with its full stops.
    ("a-aa aa aaaa", [], ".a3aa.:aaa"),
    ("aa aaaa a-aa", [(1, None)], ".a3aa.:aaa"),
    ("a-a aaa", [], ".a3a.:aa"),
]


def shown(patterns):
    return " ".join(shown_pattern(pattern) for pattern in patterns)


def shown_full(told):
    return " ".join(shown_pattern(pattern) + ":" + word for pattern, word in told)


def plain_taught(words, levels):
    learnt = []
    for number, (most, cost) in enumerate(levels, start=1):
        learnt = learnt + plain_level(words, learnt, number, most, cost)
    return learnt


def unlike(words, patterns):
    return [word for word, gaps in words if plain_gaps(patterns, word) != gaps]


def plain_full(words, levels):
    """What is told, and how many rounds it took."""
    left = plain_taught(words, levels)
    most = max((len(word) for word, _gaps in words), default=0) + 2
    number = min(even for even in (2, 4, 6, 8) if even > len(levels))
    for last in (number, number + 1):
        left = left + plain_level(words, left, last, most, None)
    rounds = 0
    struck = True
    while struck:
        rounds += 1
        struck = False
        for pattern in left[::-1]:
            others = [other for other in left if other != pattern]
            if not unlike(words, others):
                left = others
                struck = True
    wanting = [unlike(words, [other for other in left if other != pattern])[0] for pattern in left]
    return list(zip(left, wanting)), rounds


def levels_by(seed):
    costs = (1, 1, None, 2, 1, 1000, 1, 3)
    return [(1 + (seed // 7 + at) % 3, costs[(seed // 7 + at * 3) % 8]) for at in range(seed % 7)]


class Taught(unittest.TestCase):
    def test_known_ones(self):
        for words, levels, learnt in TAUGHT:
            with self.subTest(words=words, levels=levels):
                told = taught(listed_words(words), levels)
                self.assertIs(type(told), list)
                self.assertEqual(shown(told), learnt)

    def test_by_plain_reading(self):
        numbers = []
        for seed in range(70):
            words = drawn_words(seed, 2 + seed % 6, ("ab", "aab", "abc")[seed % 3], 4 + seed % 4)
            levels = levels_by(seed)
            told = taught(words, levels)
            self.assertEqual(told, plain_taught(words, levels))
            numbers += [max(pattern[1]) for pattern in told]
        self.assertEqual(sorted(set(numbers)), [1, 2, 3, 4, 5, 6])


class Full(unittest.TestCase):
    def check(self, words, levels):
        told = full(words, levels)
        self.assertIs(type(told), list)
        patterns = [pattern for pattern, _word in told]
        self.assertTrue(all(is_pattern(pattern) for pattern in patterns))
        self.assertEqual(unlike(words, patterns), [])
        self.assertEqual((missed(words, patterns), wrong(words, patterns)), ([], []))
        for number, (_pattern, word) in enumerate(told):
            # The first one: all ahead of it break as listed.
            self.assertEqual(unlike(words, patterns[:number] + patterns[number + 1:])[0], word)
        return told

    def test_known_ones(self):
        for words, levels, learnt in FULL:
            with self.subTest(words=words, levels=levels):
                told = self.check(listed_words(words), levels)
                self.assertEqual(shown_full(told), learnt)
                self.assertEqual(told, plain_full(listed_words(words), levels)[0])

    def test_lists_that_want_more_rounds(self):
        # The last one, in which none is left out, is counted, too.
        for texts, levels, learnt, rounds in (
            ("a-b ac", [], "3b:ab", 1),
            ("a-b ac", [(1, 1)], "a1:ab 2c:ac", 2),
            ("a-b ac d-b", [(1, 1)], "1b:ab", 3),
            ("a-b ac", [(1, 1)] * 2, "5b:ab", 3),
            ("b-b b-a aa", [(2, 1), (1, 1), (1, 1), (1, None)], "b1:bb", 4),
        ):
            words = listed_words(texts)
            told, counted = plain_full(words, levels)
            self.assertEqual((shown_full(told), counted), (learnt, rounds))
            self.assertEqual(self.check(words, levels), told)

    def test_by_plain_reading(self):
        all_rounds = []
        for seed in range(70):
            words = drawn_words(seed, 2 + seed % 6, ("ab", "aab", "abc")[seed % 3], 4 + seed % 4)
            levels = levels_by(seed)
            told, rounds = plain_full(words, levels)
            self.assertEqual(self.check(words, levels), told)
            all_rounds.append(rounds)
        self.assertGreater(all_rounds.count(3), 2)

    def test_12_words_of_12_letters(self):
        for seed, letters in enumerate(("ab", "abc", "abcdefghijkl", "aaaaaaab")):
            words = [(word, gaps) for word, gaps in drawn_words(seed, 200, letters, 12) if len(word) == 12][:12]
            self.assertEqual(len(words), 12)
            for levels in ([], [(14, 1)] * 6, [(14, None)] * 3, [(3, 2), (4, 3), (5, 1), (6, None)]):
                self.check(words, levels)

    def test_told_ones_stand_in_the_order_in_which_they_were_learnt(self):
        for seed in range(20):
            words = drawn_words(seed, 12, "abc", 7)
            patterns = [pattern for pattern, _word in full(words, [(2, 1), (3, 1), (4, None)])]
            keys = [(max(numbers), len(signs), signs, numbers) for signs, numbers in patterns]
            self.assertEqual(keys, sorted(keys))

    def test_no_word_of_one_letter_wants_a_pattern(self):
        told = self.check(listed_words("a a-a b"), [(2, 1)])
        self.assertEqual([word for _pattern, word in told], ["aa"])
        self.assertEqual(plain_breaks([pattern for pattern, _word in told], "a"), [])


class Kept(unittest.TestCase):
    def test_what_is_handed_in_stays(self):
        for ask, known in ((taught, TAUGHT), (full, FULL)):
            for texts, levels, _learnt in known:
                words = listed_words(texts)
                before = copy.deepcopy((words, levels))
                ask(words, levels)
                self.assertEqual((words, levels), before)

    def test_an_emptied_told_list_changes_no_later_answer(self):
        for ask, known in ((taught, TAUGHT), (full, FULL)):
            for texts, levels, _learnt in known:
                words = listed_words(texts)
                told = ask(words, levels)
                before = list(told)
                told.clear()
                told.append(("z", (0, 1)))
                self.assertEqual(ask(words, levels), before)


if __name__ == "__main__":
    unittest.main()
