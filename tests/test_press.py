import copy
import random
import unittest

from breakwords.breakers import Breaker
from breakwords.errors import NoThing, NoTongue, TooNarrow
from breakwords.press import joined, pressed
from breakwords.tongues import Tongues
from tests.helper import (
    SMALL_LETTERS,
    drawn_patterns,
    drawn_words,
    fewest_lines,
    listed,
    listed_words,
    plain_broken,
    plain_lines,
    told_or_refused,
)

# The tongue "en" breaks these words alone; "all" breaks each word at each gap.
TOLD = "ab-cd a-b-c-de abc-def abc-def-ghi pq-rstuv"

# A text, a width, and the lines, a bar between.
PRESSED = [
    # Just as long as the width, and one sign too long.
    ("@en xy", 2, "xy"),
    ("@en xyz", 3, "xyz"),
    ("@en x y", 3, "x y"),
    ("@en x y", 2, "x|y"),
    ("@en xxx yyy zzz", 11, "xxx yyy zzz"),
    ("@en xxx yyy zzz", 10, "xxx yyy|zzz"),
    ("@en xxx yyy zzz", 7, "xxx yyy|zzz"),
    ("@en xxx yyy zzz", 6, "xxx|yyy|zzz"),
    ("@en xxx yyy zzz", 3, "xxx|yyy|zzz"),
    ("@en xxx yyy zzz", 200, "xxx yyy zzz"),
    # A hyphen at the end, that fits and does not.
    ("@en abcd", 4, "abcd"),
    ("@en abcd", 3, "ab-|cd"),
    ("@en x abcd", 6, "x abcd"),
    ("@en x abcd", 5, "x ab-|cd"),
    ("@en x abcd", 4, "x|abcd"),
    ("@en x abcd", 3, "x|ab-|cd"),
    ("@en xx abcd yy", 6, "xx ab-|cd yy"),
    ("@en xx abcd yyy", 6, "xx ab-|cd yyy"),
    ("@en xx abcd yyyy", 6, "xx ab-|cd|yyyy"),
    ("@all ab", 2, "ab"),
    ("@all abc", 2, "a-|bc"),
    ("@all abcd", 2, "a-|b-|cd"),
    ("@all x abc", 4, "x a-|bc"),
    ("@all xx abc", 4, "xx|abc"),
    # A mark, that fits and does not.
    ("@en abcd,", 5, "abcd,"),
    ("@en abcd,", 4, "ab-|cd,"),
    ("@en abcd,", 3, "ab-|cd,"),
    ("@en x, y!", 5, "x, y!"),
    ("@en x, y!", 4, "x,|y!"),
    ("@en x abcd.", 7, "x abcd."),
    ("@en x abcd.", 6, "x ab-|cd."),
    ("@en x abcd.", 5, "x ab-|cd."),
    ("@en x yy?", 4, "x|yy?"),
    ("@all a;", 2, "a;"),
    ("@all ab;", 2, "a-|b;"),
    ("@all ab:", 3, "ab:"),
    ("@all abc: d", 3, "ab-|c:|d"),
    # A word over three lines, and over more.
    ("@en abcdefghi", 9, "abcdefghi"),
    ("@en abcdefghi", 8, "abcdef-|ghi"),
    ("@en abcdefghi", 7, "abcdef-|ghi"),
    ("@en abcdefghi", 6, "abc-|defghi"),
    ("@en abcdefghi", 5, "abc-|def-|ghi"),
    ("@en abcdefghi", 4, "abc-|def-|ghi"),
    ("@en x abcdefghi, y", 6, "x abc-|def-|ghi, y"),
    ("@en x abcdefghi, y", 5, "x|abc-|def-|ghi,|y"),
    ("@en x abcdefghi; y", 7, "x abc-|defghi;|y"),
    ("@all abcdefgh!", 3, "ab-|cd-|ef-|gh!"),
    ("@all abcdefg!", 2, "a-|b-|c-|d-|e-|f-|g!"),
    # It would go whole into the next line, but goes with a part into this one.
    ("@en xx abcd", 6, "xx ab-|cd"),
    ("@en xyz abcdef", 8, "xyz abc-|def"),
    ("@en xyz abcdef yy", 8, "xyz abc-|def yy"),
    ("@all abc def", 6, "abc d-|ef"),
    # At the farthest gap that fits.
    ("@en abcde", 4, "abc-|de"),
    ("@en abcde", 3, "ab-|cde"),
    ("@en x abcde", 7, "x abcde"),
    ("@en x abcde", 6, "x abc-|de"),
    ("@en x abcde", 5, "x ab-|cde"),
    ("@en x abcde", 4, "x a-|bcde"),
    ("@en x abcde", 3, "x|ab-|cde"),
    ("@all abcdefghijklmnopqrst", 12, "abcdefghijk-|lmnopqrst"),
    # Several words and tongues: each word is broken by its own tongue alone.
    ("@en abcd @all abcd @en xyz", 7, "abcd a-|bcd xyz"),
    ("@en xyzw @all xyzw @en xyzw", 7, "xyzw x-|yzw|xyzw"),
    ("@all abc, @en abcd. @all abc", 4, "abc,|ab-|cd.|abc"),
    # What is left of a word goes just into the next line.
    ("@en pqrstuv", 5, "pq-|rstuv"),
    ("@en pqrstuv.", 6, "pq-|rstuv."),
    ("@en xyzw,", 5, "xyzw,"),
    ("@en x @all abc @en xyzw, x", 5, "x abc|xyzw,|x"),
]

# A text, a width, and the place of the word of which a line can hold nothing.
TOO_NARROW = [
    # In the first line.
    ("@en xyz", 2, 1),
    ("@en @en xyz", 2, 2),
    ("@en xy,", 2, 1),
    ("@en abcd", 2, 1),
    ("@en xyzxyz", 5, 1),
    # In a later one.
    ("@en x xyz", 2, 2),
    ("@en xy x xyzw", 3, 3),
    ("@en x @all abc @en xyzw, x", 4, 5),
    ("@en x ab abcdefghi.", 3, 3),
    # What is left of a word, without the mark and with it.
    ("@en pqrstuv", 4, 1),
    ("@en pqrstuv.", 5, 1),
    ("@all x y @en pqrstuv x", 4, 4),
    # By the mark alone.
    ("@en ab, cdef. gh", 4, 2),
    # The first of several.
    ("@en xyz xyz", 2, 1),
    ("@en xy @en xyz x xyzw", 2, 3),
]


def known_tongues():
    tongues = Tongues()
    tongues.put("en", Breaker([], listed_words(TOLD), 1, 1))
    tongues.put("all", Breaker(listed(" ".join("1" + letter for letter in SMALL_LETTERS)), [], 1, 1))
    return tongues


def drawn_breaker(seed):
    # As a tuple (patterns, told, head, tail), told a dict.
    patterns = drawn_patterns(seed, 6, "ab", 3, 3)
    return (patterns, dict(drawn_words(seed, 4, "abc", 9)), 1 + seed % 2, 1 + seed % 3)


def tongues_of(breakers):
    tongues = Tongues()
    for name, (patterns, told, head, tail) in breakers.items():
        tongues.put(name, Breaker(patterns, list(told.items()), head, tail))
    return tongues


def drawn_text(seed, breakers):
    """A text, the places of its words, and the words as tuples (word, mark, gaps) by the plain reading."""
    draw = random.Random(seed)
    names = list(breakers)
    name = draw.choice(names)
    text = ["@" + name]
    places, words = [], []
    for _at in range(draw.randint(0, 12)):
        if draw.randint(0, 4) == 0:
            name = draw.choice(names)
            text.append("@" + name)
        told = list(breakers[name][1])
        word = draw.choice(told + ["".join(draw.choice("abc") for _sign in range(draw.randint(1, 12)))] * 4)
        mark = draw.choice(("", "", "", ",", "?"))
        places.append(len(text))
        words.append((word, mark, plain_broken(breakers[name], word)))
        text.append(word + mark)
    return text, places, words


class Pressed(unittest.TestCase):
    def test_known_ones(self):
        tongues = known_tongues()
        for text, width, lines in PRESSED:
            with self.subTest(text=text, width=width):
                self.assertEqual(pressed(tongues, text.split(), width), lines.split("|"))

    def test_known_ones_are_the_fewest(self):
        tongues = known_tongues()
        for text, width, lines in PRESSED:
            name, words = "", []
            for thing in text.split():
                word = thing.strip(",.;:!?")
                if thing.startswith("@"):
                    name = thing[1:]
                else:
                    words.append((word, thing[len(word):], tongues.gaps(name, word)))
            with self.subTest(text=text, width=width):
                self.assertEqual(fewest_lines(words, width), len(lines.split("|")))

    def test_a_text_without_words(self):
        tongues = known_tongues()
        for text in ([], ["@en"], ["@en", "@all"]):
            for width in (2, 3, 200):
                lines = pressed(tongues, text, width)
                self.assertIs(type(lines), list)
                self.assertEqual(lines, [])

    def test_the_least_width(self):
        text = ["@all", "a", "b", "cc", "ddd,", "e?"]
        self.assertEqual(pressed(known_tongues(), text, 2), ["a", "b", "cc", "d-", "d-", "d,", "e?"])

    def test_the_greatest_width(self):
        tongues = known_tongues()
        # 49 words of 3 letters and their blanks: 196 signs; so a last one of 4 letters goes in with 3 of them.
        text = ["@en"] + ["xyz"] * 49
        self.assertEqual(pressed(tongues, text + ["xyz"], 200), [" ".join(["xyz"] * 50)])
        self.assertEqual(pressed(tongues, text + ["xyzw"], 200), [" ".join(["xyz"] * 49 + ["xyzw"])])
        self.assertEqual(pressed(tongues, text + ["xyzw,"], 200), [" ".join(["xyz"] * 49), "xyzw,"])
        self.assertEqual(pressed(tongues, text + ["abcd,"], 200), [" ".join(["xyz"] * 49 + ["ab-"]), "cd,"])
        self.assertEqual(
            pressed(tongues, text + ["@all", "vwxyz"], 200),
            [" ".join(["xyz"] * 49 + ["vwx-"]), "yz"],
        )

    def test_sixty_things_of_twenty_letters(self):
        text = ["@all"] + ["abcdefghijklmnopqrst"] * 59
        lines = pressed(known_tongues(), text, 200)
        self.assertEqual(joined(lines), text[1:])
        # Nine words, blanks, and ten letters with a -; then the other ten letters and nine words: no room for "a-".
        self.assertEqual([len(line) for line in lines], [200, 199, 200, 199, 200, 199, 41])

    def test_by_plain_reading(self):
        broken, refused = 0, 0
        for seed in range(400):
            breakers = {"a": drawn_breaker(seed), "ab": drawn_breaker(seed + 1000)}
            tongues = tongues_of(breakers)
            text, places, words = drawn_text(seed, breakers)
            for width in (2, 3, 4, 5, 6, 7, 9, 12, 20, 60):
                told = told_or_refused(pressed, tongues, text, width)
                lines = plain_lines(words, width)
                if isinstance(lines, int):
                    self.assertEqual(told, (TooNarrow, places[lines]), (text, width))
                    self.assertIsNone(fewest_lines(words, width))
                    refused += 1
                    continue
                self.assertEqual(told, lines, (text, width))
                self.assertEqual(len(lines), fewest_lines(words, width), (text, width))
                broken += sum(line.endswith("-") for line in lines)
        self.assertGreater(broken, 1000)
        self.assertGreater(refused, 300)

    def test_again_behind_another_breaker(self):
        tongues = known_tongues()
        text = ["@en", "x", "abcd"]
        self.assertEqual(pressed(tongues, text, 5), ["x ab-", "cd"])
        tongues.put("en", Breaker(listed("a1b"), [], 1, 1))
        self.assertEqual(pressed(tongues, text, 5), ["x a-", "bcd"])
        tongues.put("en", Breaker(listed("a1b"), [], 2, 2))
        self.assertEqual(pressed(tongues, text, 5), ["x", "abcd"])


class Refused(unittest.TestCase):
    def test_too_narrow(self):
        tongues = known_tongues()
        for text, width, place in TOO_NARROW:
            with self.subTest(text=text, width=width):
                self.assertEqual(told_or_refused(pressed, tongues, text.split(), width), (TooNarrow, place))

    def test_things_and_tongues_go_ahead(self):
        tongues = known_tongues()
        for text, width, refusal in (
            ("@en xyz A", 2, (NoThing, 2)),
            ("@en xyz @", 2, (NoThing, 2)),
            ("@en xyz @fr", 2, (NoTongue, "fr")),
            ("@en x xyz @fr x", 2, (NoTongue, "fr")),
            ("xyz @en xyz", 2, (NoTongue, "")),
            ("xyz @en xyz A", 2, (NoThing, 3)),
            ("@fr xyz .", 2, (NoThing, 2)),
            # With room enough, too.
            ("@en x a-b", 20, (NoThing, 2)),
            ("@fr x", 20, (NoTongue, "fr")),
            ("x", 20, (NoTongue, "")),
            ("@en x @", 200, (NoThing, 2)),
        ):
            with self.subTest(text=text):
                self.assertEqual(told_or_refused(pressed, tongues, text.split(), width), refusal)

    def test_a_thing_without_signs(self):
        self.assertEqual(told_or_refused(pressed, known_tongues(), ["@en", "x", ""], 9), (NoThing, 2))

    def test_what_is_refused_changes_nothing(self):
        tongues = known_tongues()
        for text in ("@en xyz", "@fr", "@en A", "x"):
            told_or_refused(pressed, tongues, text.split(), 2)
            self.assertEqual(tongues.names(), ["all", "en"])
            self.assertEqual(pressed(tongues, ["@en", "abcd"], 3), ["ab-", "cd"])


class Joined(unittest.TestCase):
    def test_no_lines(self):
        told = joined([])
        self.assertIs(type(told), list)
        self.assertEqual(told, [])

    def test_known_ones(self):
        for lines, words in (
            ("xy", "xy"),
            ("x y", "x y"),
            ("x|y", "x y"),
            ("ab-|cd", "abcd"),
            ("x ab-|cd y", "x abcd y"),
            ("abc-|def-|ghi", "abcdefghi"),
            ("x abc-|def-|ghi, y", "x abcdefghi, y"),
            ("a-|b-|c-|d!", "abcd!"),
            ("x, ab-|cd. ab-|cd? y;|z:", "x, abcd. abcd? y; z:"),
            ("ab-|cd|ef", "abcd ef"),
            ("ab-|cd ef-|gh", "abcd efgh"),
        ):
            with self.subTest(lines=lines):
                self.assertEqual(joined(lines.split("|")), words.split())

    def test_known_lines_that_were_set(self):
        tongues = known_tongues()
        for text, width, _lines in PRESSED:
            words = [thing for thing in text.split() if not thing.startswith("@")]
            self.assertEqual(joined(pressed(tongues, text.split(), width)), words)

    def test_drawn_lines_that_were_set(self):
        several = 0
        for seed in range(400):
            breakers = {"a": drawn_breaker(seed), "ab": drawn_breaker(seed + 1000)}
            tongues = tongues_of(breakers)
            text, _places, words = drawn_text(seed, breakers)
            for width in (3, 5, 8, 13, 200):
                lines = told_or_refused(pressed, tongues, text, width)
                if isinstance(lines, list):
                    self.assertEqual(joined(lines), [word + mark for word, mark, _gaps in words])
                    several += sum(line.endswith("-") and " " not in line for line in lines[1:])
        self.assertGreater(several, 100)


class HandedIn(unittest.TestCase):
    def test_the_text_stays(self):
        tongues = known_tongues()
        for text, width, _told in PRESSED + TOO_NARROW:
            things = text.split()
            before = copy.deepcopy(things)
            told_or_refused(pressed, tongues, things, width)
            self.assertEqual(things, before)

    def test_the_lines_stay(self):
        for lines in ([], ["x"], ["x ab-", "cd-", "ef, y", "z"]):
            before = copy.deepcopy(lines)
            joined(lines)
            self.assertEqual(lines, before)

    def test_what_is_told_is_the_askers_own(self):
        tongues = known_tongues()
        text = ["@en", "x", "abcd"]
        lines = pressed(tongues, text, 5)
        words = joined(lines)
        words.append("y")
        self.assertEqual(lines, ["x ab-", "cd"])
        self.assertEqual(joined(lines), ["x", "abcd"])
        lines.clear()
        self.assertEqual(pressed(tongues, text, 5), ["x ab-", "cd"])
        self.assertEqual(words, ["x", "abcd", "y"])


if __name__ == "__main__":
    unittest.main()
