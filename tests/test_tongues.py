import unittest

from breakwords.breakers import Breaker
from breakwords.errors import NoTongue
from breakwords.tongues import Tongues
from tests.helper import drawn_patterns, drawn_word, drawn_words, listed, listed_words, plain_broken, told_or_refused


def breaker_of(patterns, told="", head=1, tail=1):
    return Breaker(listed(patterns), listed_words(told), head, tail)


class Names(unittest.TestCase):
    def test_none_at_first(self):
        self.assertEqual(Tongues().names(), [])

    def test_rising_whatever_order_they_were_put_in(self):
        tongues = Tongues()
        for name in ("nl", "z", "abcdefgh", "de", "a", "en", "abcdefg", "zz", "da"):
            tongues.put(name, breaker_of(""))
        self.assertEqual(tongues.names(), ["a", "abcdefg", "abcdefgh", "da", "de", "en", "nl", "z", "zz"])

    def test_a_new_list_each_time(self):
        tongues = Tongues()
        for name in ("b", "a"):
            tongues.put(name, breaker_of("a1b"))
        names = tongues.names()
        self.assertIs(type(names), list)
        self.assertIsNot(names, tongues.names())
        names.append("c")
        names.remove("a")
        self.assertEqual(tongues.names(), ["a", "b"])
        self.assertEqual(tongues.shown("a", "ab"), "a-b")
        self.assertEqual(told_or_refused(tongues.shown, "c", "ab"), (NoTongue, "c"))

    def test_each_once(self):
        tongues = Tongues()
        for name in ("b", "a", "b", "b"):
            tongues.put(name, breaker_of(""))
        self.assertEqual(tongues.names(), ["a", "b"])


class Put(unittest.TestCase):
    def test_nothing_is_told(self):
        tongues = Tongues()
        self.assertIsNone(tongues.put("en", breaker_of("a1b")))
        self.assertIsNone(tongues.put("en", breaker_of("a2b")))

    def test_each_name_has_its_own(self):
        tongues = Tongues()
        # Names that are beginnings of one another, too.
        for name, patterns in (("a", "a1b"), ("ab", "b1c"), ("abc", "c1d"), ("b", "")):
            tongues.put(name, breaker_of(patterns))
        self.assertEqual(
            [tongues.shown(name, "abcd") for name in ("a", "ab", "abc", "b")],
            ["a-bcd", "ab-cd", "abc-d", "abcd"],
        )
        self.assertEqual(
            [tongues.gaps(name, "abcd") for name in ("a", "ab", "abc", "b")],
            [(1,), (2,), (3,), ()],
        )

    def test_in_the_place_of_an_earlier_one(self):
        tongues = Tongues()
        tongues.put("en", breaker_of("a1b", "cd-ab", 1, 1))
        tongues.put("de", breaker_of("a1b"))
        self.assertEqual((tongues.shown("en", "abab"), tongues.shown("en", "cdab")), ("a-ba-b", "cd-ab"))
        tongues.put("en", breaker_of("b1a c1d", "", 2, 2))
        self.assertEqual((tongues.shown("en", "abab"), tongues.shown("en", "cdab")), ("ab-ab", "cdab"))
        self.assertEqual((tongues.gaps("en", "abab"), tongues.gaps("en", "cdab")), ((2,), ()))
        self.assertEqual(tongues.shown("de", "abab"), "a-ba-b")
        self.assertEqual(tongues.names(), ["de", "en"])

    def test_what_is_done_to_a_breaker_afterwards_changes_nothing(self):
        tongues = Tongues()
        breaker = breaker_of("a1b", "c-d")
        tongues.put("en", breaker)
        Breaker.__init__(breaker, listed("x1y"), listed_words("cd"), 2, 2)
        self.assertEqual([tongues.shown("en", word) for word in ("ab", "cd", "xy")], ["a-b", "c-d", "xy"])
        self.assertEqual([tongues.gaps("en", word) for word in ("ab", "cd", "xy")], [(1,), (1,), ()])
        self.assertEqual(breaker.shown("xxyy"), "xx-yy")

    def test_the_breaker_handed_in_stays(self):
        one, other = Tongues(), Tongues()
        breaker = breaker_of("a1b", "c-d", 1, 2)
        one.put("en", breaker)
        one.put("de", breaker)
        other.put("en", breaker)
        one.put("en", breaker_of(""))
        for shown in (breaker.shown, lambda word: one.shown("de", word), lambda word: other.shown("en", word)):
            self.assertEqual([shown(word) for word in ("abb", "cab", "cd")], ["a-bb", "cab", "c-d"])
        self.assertEqual(one.shown("en", "abb"), "abb")

    def test_two_keepers_each_its_own(self):
        one, other = Tongues(), Tongues()
        one.put("en", breaker_of("a1b"))
        self.assertEqual(other.names(), [])
        self.assertEqual(told_or_refused(other.gaps, "en", "ab"), (NoTongue, "en"))
        other.put("en", breaker_of("b1a"))
        other.put("de", breaker_of(""))
        self.assertEqual((one.shown("en", "abab"), other.shown("en", "abab")), ("a-ba-b", "ab-ab"))
        self.assertEqual((one.names(), other.names()), (["en"], ["de", "en"]))


class AsTheBreaker(unittest.TestCase):
    def test_by_plain_reading(self):
        tongues = Tongues()
        plain = {}
        for seed, name in enumerate(("a", "b", "ab", "ba", "abcdefgh", "c", "a", "b")):
            patterns = drawn_patterns(seed, seed * 3, "ab", 4, 5)
            told = drawn_words(seed, 5, "ab", 6)
            head, tail = 1 + seed % 3, 1 + seed % 4
            tongues.put(name, Breaker(patterns, told, head, tail))
            plain[name] = (patterns, dict(told), head, tail)
        some = 0
        for name, breaker in plain.items():
            for word in list(breaker[1]) + [drawn_word(seed, "ab", seed % 21 or 1) for seed in range(60)]:
                gaps = plain_broken(breaker, word)
                self.assertEqual(tongues.gaps(name, word), gaps)
                self.assertIs(type(tongues.gaps(name, word)), tuple)
                self.assertEqual(listed_words(tongues.shown(name, word)), [(word, gaps)])
                some += len(gaps)
        self.assertGreater(some, 300)


class Refused(unittest.TestCase):
    def test_a_name_without_a_breaker(self):
        tongues = Tongues()
        for name in ("en", "a"):
            self.assertEqual(told_or_refused(tongues.gaps, name, "ab"), (NoTongue, name))
            self.assertEqual(told_or_refused(tongues.shown, name, "ab"), (NoTongue, name))
        tongues.put("en", breaker_of("a1b", "c-d"))
        for name in ("e", "n", "ena", "aen", "ne", "abcdefgh"):
            for word in ("ab", "cd", "en"):
                with self.subTest(name=name, word=word):
                    self.assertEqual(told_or_refused(tongues.gaps, name, word), (NoTongue, name))
                    self.assertEqual(told_or_refused(tongues.shown, name, word), (NoTongue, name))

    def test_nothing_is_changed_by_it(self):
        tongues = Tongues()
        tongues.put("en", breaker_of("a1b"))
        for asked in (tongues.gaps, tongues.shown):
            for _time in range(2):
                self.assertEqual(told_or_refused(asked, "de", "ab"), (NoTongue, "de"))
            self.assertEqual(tongues.names(), ["en"])
            self.assertEqual(tongues.shown("en", "ab"), "a-b")


if __name__ == "__main__":
    unittest.main()
