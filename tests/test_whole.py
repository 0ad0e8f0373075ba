"""What the whole program promises, seen through a desk."""

import itertools
import random
import unittest

from breakwords.apart import apart
from breakwords.desk import Desk
from breakwords.errors import TooNarrow
from breakwords.learning import full
from breakwords.pared import needless
from breakwords.patterns import shown_pattern
from breakwords.press import joined
from breakwords.woods import wood_of, wood_values
from breakwords.words import read_broken, shown_broken
from tests.helper import (
    check_told,
    drawn_patterns,
    drawn_word,
    drawn_words,
    listed,
    listed_words,
    plain_breaks,
    plain_gaps,
    told_or_refused,
)


def some_words(letters):
    short = ["".join(word) for length in range(1, 6) for word in itertools.product(letters, repeat=length)]
    return short + [drawn_word(seed, letters, 6 + seed % 15) for seed in range(30)]


def desk_of(patterns, head=1, tail=1):
    desk = Desk()
    desk.say(f"tongue en {head} {tail}")
    for pattern in patterns:
        desk.say("pattern en " + shown_pattern(pattern))
    return desk


def kept_patterns(desk):
    texts = desk.say("patterns en")
    return [] if texts == "none" else listed(texts)


class Broken(unittest.TestCase):
    def check_words(self, desk, patterns, head, tail):
        wood = wood_of(kept_patterns(desk))
        for word in some_words("abc"):
            gaps = plain_gaps(patterns, word)
            told = tuple(gap for gap in gaps if gap >= head and len(word) - gap >= tail)
            self.assertEqual(desk.say("break en " + word), shown_broken((word, told)))
            odd = [gap for gap, value in enumerate(wood_values(wood, word), start=1) if value % 2 == 1]
            self.assertEqual(odd, list(gaps))

    def test_by_the_plain_reading_before_and_after_paring(self):
        struck = 0
        for seed in range(12):
            patterns = drawn_patterns(seed, 8, "abc", 3, 4)
            head, tail = 1 + seed % 3, 1 + seed % 2
            desk = desk_of(patterns, head, tail)
            self.assertEqual(kept_patterns(desk), patterns)
            self.check_words(desk, patterns, head, tail)
            count = int(desk.say("pare en"))
            left = kept_patterns(desk)
            self.assertEqual(len(left), len(patterns) - count)
            # By all patterns that were told, also those that were struck.
            self.check_words(desk, patterns, head, tail)
            self.check_pared(patterns, left)
            struck += count
        self.assertGreater(struck, 20)

    def check_pared(self, patterns, left):
        told = apart(patterns, left)
        self.assertEqual(told[0], "same")
        check_told(self, patterns, left, told)
        for number in range(len(left)):
            without = left[:number] + left[number + 1:]
            kind, word = needless(left, number)
            self.assertEqual(kind, "word")
            self.assertNotEqual(plain_breaks(left, word), plain_breaks(without, word))


class Learnt(unittest.TestCase):
    def check_listed(self, words, levels):
        told = full(words, levels)
        desk = desk_of([pattern for pattern, _word in told])
        for broken in words:
            self.assertEqual(desk.say("break en " + broken[0]), shown_broken(broken))
        gaps = dict(words)
        for number, (_pattern, word) in enumerate(told):
            without = desk_of([pattern for pattern, _word in told[:number] + told[number + 1:]])
            self.assertNotEqual(without.say("break en " + word), shown_broken((word, gaps[word])))
        return len(told)

    def test_full_patterns_told_to_a_desk(self):
        known = listed_words("hy-phen-ation ta-ble con-cat-e-na-tion sup-ple ab-le a")
        self.assertGreater(self.check_listed(known, [(3, 1), (3, 2)]), 3)
        learnt = 0
        for seed in range(8):
            words = drawn_words(seed, 12, "abc", 12)
            learnt += self.check_listed(words, [(2, 1), (3, 2), (4, None)][:seed % 4])
        self.assertGreater(learnt, 60)

    def test_full_patterns_pared_break_them_as_listed(self):
        words = listed_words("a-b ac d-b b-ca ab-c")
        told = full(words, [(2, 1)])
        self.assertTrue(0 < len(told) <= 12 and all(len(pattern[0]) <= 6 for pattern, _word in told))
        desk = desk_of([pattern for pattern, _word in told])
        desk.say("pare en")
        for broken in words:
            self.assertEqual(desk.say("break en " + broken[0]), shown_broken(broken))


class InLines(unittest.TestCase):
    def check_lines(self, lines, words, breaks_by_word, width):
        self.assertEqual(joined(lines), words)
        for line in lines:
            self.assertTrue(0 < len(line) <= width, line)
        # The words with a - wherever one was broken over two lines.
        marked = "|".join(lines).replace("-|", "-").replace("|", " ")
        for shown, thing in zip(marked.split(" "), words, strict=True):
            word = thing.rstrip(",.;:!?")
            gaps = read_broken(shown.rstrip(",.;:!?"))[1]
            self.assertLessEqual(set(gaps), set(breaks_by_word[word]), (lines, thing))
            self.assertEqual(shown.replace("-", ""), thing)

    def test_broken_only_where_the_tongue_lets_them(self):
        draw = random.Random(3)
        pressed, broken = 0, 0
        for seed in range(40):
            patterns = drawn_patterns(seed, 8, "ab", 3, 4)
            told = drawn_words(seed, 5, "ab", 9)
            desk = desk_of(patterns, 1 + seed % 2, 1 + seed % 3)
            for one in told:
                desk.say("told en " + shown_broken(one))
            if seed % 2 == 0:
                desk.say("pare en")
            words = [word for word, _gaps in told] + [drawn_word(seed * 9 + at, "ab", 1 + at * 2) for at in range(9)]
            breaks_by_word = {word: read_broken(desk.say("break en " + word))[1] for word in words}
            for word, gaps in told:
                self.assertEqual(breaks_by_word[word], gaps)
            text = [draw.choice(words) + draw.choice(("", "", ",", ".", "!")) for _at in range(30)]
            for width in (6, 9, 14, 21, 60, 200):
                lines = told_or_refused(desk.say, f"press {width} @en " + " ".join(text))
                if isinstance(lines, tuple):
                    self.assertIs(lines[0], TooNarrow)
                    continue
                self.check_lines(lines.split("|"), text, breaks_by_word, width)
                pressed += 1
                broken += lines.count("-")
        self.assertGreater(pressed, 100)
        self.assertGreater(broken, 200)


if __name__ == "__main__":
    unittest.main()
