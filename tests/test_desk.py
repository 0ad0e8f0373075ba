import random
import re
import unittest

from breakwords.desk import Desk
from breakwords.errors import NoPattern, NoRow, NoThing, NoTongue, NoWord, TooNarrow
from breakwords.pared import pared
from breakwords.patterns import read_pattern, shown_pattern
from breakwords.words import read_broken, shown_broken
from tests.helper import plain_broken, plain_lines, told_or_refused

NO_ROW = (NoRow,)

# Rows and their answers, one behind the other, each list of them to a new desk.
TALKS = {
    "a new tongue": [
        ("patterns en", (NoTongue, "en")),
        ("tongue en 1 1", "ok"),
        ("patterns en", "none"),
        ("break en abc", "abc"),
        ("tongue abcdefgh 20 20", "ok"),
        ("tongue a 1 20", "ok"),
        ("tongue ab 20 1", "ok"),
        ("patterns abcdefgh", "none"),
        ("break a abc", "abc"),
        ("patterns abc", (NoTongue, "abc")),
    ],
    "head and tail": [
        ("tongue en 2 3", "ok"),
        ("pattern en 1a", "ok"),
        ("break en aaaaaaa", "aa-a-a-aaa"),
        ("break en aaaaa", "aa-aaa"),
        ("break en aaaa", "aaaa"),
        ("tongue en 3 1", "ok"),
        ("pattern en 1a", "ok"),
        ("break en aaaaa", "aaa-a-a"),
        ("tongue en 10 10", "ok"),
        ("pattern en 1a", "ok"),
        ("break en aaaaaaaaaaaaaaaaaaaa", "aaaaaaaaaa-aaaaaaaaaa"),
        ("tongue en 20 1", "ok"),
        ("pattern en 1a", "ok"),
        ("break en aaaaaaaaaaaaaaaaaaaa", "aaaaaaaaaaaaaaaaaaaa"),
        ("tongue en 19 1", "ok"),
        ("pattern en 1a", "ok"),
        ("break en aaaaaaaaaaaaaaaaaaaa", "aaaaaaaaaaaaaaaaaaa-a"),
    ],
    "a tongue put anew": [
        ("tongue en 1 1", "ok"),
        ("tongue de 1 1", "ok"),
        ("pattern en a1b", "ok"),
        ("pattern de a1b", "ok"),
        ("told en c-d", "ok"),
        ("told de c-d", "ok"),
        ("break en ab", "a-b"),
        ("break en cd", "c-d"),
        ("tongue en 1 1", "ok"),
        ("patterns en", "none"),
        ("break en ab", "ab"),
        ("break en cd", "cd"),
        ("patterns de", "a1b"),
        ("break de ab", "a-b"),
        ("break de cd", "c-d"),
    ],
    "patterns in the order told": [
        ("tongue en 1 1", "ok"),
        ("pattern en 2n", "ok"),
        ("patterns en", "2n"),
        ("pattern en .ab1c", "ok"),
        ("pattern en a3b.", "ok"),
        ("patterns en", "2n .ab1c a3b."),
        ("pattern en a1b", "ok"),
        ("pattern en 2n", "ok"),
        ("pattern en 2n", "ok"),
        ("pattern en n", "ok"),
        ("patterns en", "2n .ab1c a3b. a1b 2n 2n n"),
        ("patterns en", "2n .ab1c a3b. a1b 2n 2n n"),
        ("break en abcab", "a-b-ca-b"),
        ("pattern en a4b.", "ok"),
        ("break en abcab", "a-b-cab"),
        ("patterns en", "2n .ab1c a3b. a1b 2n 2n n a4b."),
    ],
    "texts that are no patterns": [
        ("tongue en 1 1", "ok"),
        ("pattern en a1b", "ok"),
        ("pattern en 1.a", (NoPattern, 1)),
        ("pattern en .", (NoPattern, 1)),
        ("pattern en ..", (NoPattern, 1)),
        ("pattern en a.b", (NoPattern, 2)),
        ("pattern en a.1", (NoPattern, 2)),
        ("pattern en a0", (NoPattern, 1)),
        ("pattern en a10", (NoPattern, 2)),
        ("pattern en .1", (NoPattern, 2)),
        ("pattern en A", (NoPattern, 0)),
        ("pattern en a-b", (NoPattern, 1)),
        ("pattern en ", (NoPattern, 0)),
        ("pattern en abcdefghijklmnopqrstuvw", (NoPattern, 22)),
        ("patterns en", "a1b"),
        ("pattern en abcdefghijklmnopqrstuv", "ok"),
        ("patterns en", "a1b abcdefghijklmnopqrstuv"),
    ],
    "told words": [
        ("tongue en 2 2", "ok"),
        ("pattern en 1a", "ok"),
        ("break en aaaa", "aa-aa"),
        ("told en a-aaa", "ok"),
        ("break en aaaa", "a-aaa"),
        ("break en aaaaa", "aa-a-aa"),
        # Told anew, with other gaps, with none, with the same.
        ("told en aaa-a", "ok"),
        ("break en aaaa", "aaa-a"),
        ("told en aaaa", "ok"),
        ("break en aaaa", "aaaa"),
        ("told en aaaa", "ok"),
        ("told en a-a-a-a", "ok"),
        ("break en aaaa", "a-a-a-a"),
        ("told en x", "ok"),
        ("break en x", "x"),
        ("patterns en", "1a"),
        ("told en aaa-b", "ok"),
        ("break en aaaa", "a-a-a-a"),
        ("break en aaab", "aaa-b"),
    ],
    "texts that are no broken words": [
        ("tongue en 1 1", "ok"),
        ("told en a-b", "ok"),
        ("told en ", (NoWord, 0)),
        ("told en -", (NoWord, 0)),
        ("told en a-", (NoWord, 2)),
        ("told en ab-", (NoWord, 3)),
        ("told en -ab", (NoWord, 0)),
        ("told en a--b", (NoWord, 2)),
        ("told en aB", (NoWord, 1)),
        ("told en a1b", (NoWord, 1)),
        ("told en ab,", (NoWord, 2)),
        ("break en ab", "a-b"),
    ],
    "words that are none": [
        ("tongue en 1 1", "ok"),
        ("pattern en a1b", "ok"),
        ("break en ab", "a-b"),
        ("break en ", (NoWord, 0)),
        ("break en A", (NoWord, 0)),
        ("break en -", (NoWord, 0)),
        ("break en a-b", (NoWord, 1)),
        ("break en ab-", (NoWord, 2)),
        ("break en a-", (NoWord, 1)),
        ("break en ab,", (NoWord, 2)),
        ("break en abC1", (NoWord, 2)),
        ("break en @en", (NoWord, 0)),
        ("break en a|b", (NoWord, 1)),
        ("break en b", "b"),
    ],
    "tongues keep apart": [
        ("tongue a 1 1", "ok"),
        ("tongue ab 1 1", "ok"),
        ("pattern a a1b", "ok"),
        ("pattern ab b1a", "ok"),
        ("told a xy-z", "ok"),
        ("break a abab", "a-ba-b"),
        ("break ab abab", "ab-ab"),
        ("break a xyz", "xy-z"),
        ("break ab xyz", "xyz"),
        ("patterns a", "a1b"),
        ("patterns ab", "b1a"),
        ("pare a", "0"),
        ("patterns ab", "b1a"),
    ],
    "pared": [
        ("tongue en 1 1", "ok"),
        ("pare en", "0"),
        ("patterns en", "none"),
        ("pattern en a1b", "ok"),
        ("pattern en 1b", "ok"),
        ("pattern en 2c", "ok"),
        ("pare en", "2"),
        ("patterns en", "1b"),
        ("pare en", "0"),
        ("patterns en", "1b"),
        ("break en abc", "a-bc"),
        # Those told afterwards come behind.
        ("pattern en 2b", "ok"),
        ("patterns en", "1b 2b"),
        ("pare en", "2"),
        ("patterns en", "none"),
        ("break en abc", "abc"),
    ],
    "pared, those told twice": [
        ("tongue en 2 1", "ok"),
        ("pattern en a1", "ok"),
        ("pattern en a1", "ok"),
        ("pattern en a2b", "ok"),
        ("pattern en a1", "ok"),
        ("pattern en c", "ok"),
        ("told en a-bcd", "ok"),
        ("pare en", "3"),
        ("patterns en", "a2b a1"),
        # Head, tail and told words stay.
        ("break en aacab", "aa-cab"),
        ("break en abcd", "a-bcd"),
        ("pare en", "0"),
        ("patterns en", "a2b a1"),
    ],
    "pressed": [
        ("tongue en 1 1", "ok"),
        ("told en ab-cd", "ok"),
        ("told en abc-def-ghi", "ok"),
        ("tongue all 1 1", "ok"),
        ("pattern all 1b", "ok"),
        ("pattern all 1c", "ok"),
        ("press 6 @en x abcd", "x abcd"),
        ("press 5 @en x abcd", "x ab-|cd"),
        ("press 4 @en x abcd", "x|abcd"),
        ("press 6 @en x abcdefghi, y", "x abc-|def-|ghi, y"),
        ("press 200 @en x abcd @all abc!", "x abcd abc!"),
        ("press 2 @all abc x", "a-|bc|x"),
        ("press 7 @en abcd @all abc? @en abcd.", "abcd a-|bc? ab-|cd."),
        ("press 20 @en", "none"),
        ("press 2 @en @all", "none"),
        ("told en x", "ok"),
        ("press 19 @en a a", "a a"),
        ("press 99 @en a a", "a a"),
        ("press 100 @en a a", "a a"),
        ("press 199 @en a a", "a a"),
        # By what was told in between.
        ("told en abc-d", "ok"),
        ("press 6 @en x abcd y", "x abcd|y"),
        ("press 5 @en x abcd y", "x|abcd|y"),
        ("pattern all 2b", "ok"),
        ("press 3 @all abc x", "abc|x"),
        ("press 2 @all abc x", (TooNarrow, 1)),
    ],
    "texts that are not pressed": [
        ("tongue en 1 1", "ok"),
        ("told en ab-cd", "ok"),
        # Things.
        ("press 9 ", (NoThing, 0)),
        ("press 9  ", (NoThing, 0)),
        ("press 9 @en x ", (NoThing, 2)),
        ("press 9 @en  x", (NoThing, 1)),
        ("press 9  @en x", (NoThing, 0)),
        ("press 9 @", (NoThing, 0)),
        ("press 9 @En x", (NoThing, 0)),
        ("press 9 @abcdefghi x", (NoThing, 0)),
        ("press 9 @en x,, y", (NoThing, 1)),
        ("press 9 @en x A", (NoThing, 2)),
        ("press 9 @en x a-b", (NoThing, 2)),
        ("press 2 @en xyz 1", (NoThing, 2)),
        ("press 9 @de x |", (NoThing, 2)),
        ("press 9 x @de ,", (NoThing, 2)),
        # Tongues.
        ("press 9 x", (NoTongue, "")),
        ("press 9 x @en", (NoTongue, "")),
        ("press 9 en x", (NoTongue, "")),
        ("press 9 x @de", (NoTongue, "")),
        ("press 9 @de", (NoTongue, "de")),
        ("press 9 @de x", (NoTongue, "de")),
        ("press 2 @en xyz @de", (NoTongue, "de")),
        ("press 2 xyz", (NoTongue, "")),
        # Widths.
        ("press 2 @en xyz", (TooNarrow, 1)),
        ("press 2 @en x abcd", (TooNarrow, 2)),
        ("press 3 @en x @en xyz,", (TooNarrow, 3)),
        ("press 3 @en x abcd", "x|ab-|cd"),
    ],
    "the order of refusals": [
        # No row, ahead of all.
        ("pattern de", NO_ROW),
        ("pattern De A", NO_ROW),
        ("tongue De 0 21", NO_ROW),
        ("break abcdefghi A", NO_ROW),
        ("press 1 @de A", NO_ROW),
        # A tongue that lacks, ahead of what stands behind it.
        ("pattern de A", (NoTongue, "de")),
        ("pattern de ", (NoTongue, "de")),
        ("told de A", (NoTongue, "de")),
        ("told de ", (NoTongue, "de")),
        ("break de A", (NoTongue, "de")),
        ("break de ", (NoTongue, "de")),
        ("pattern de a1b", (NoTongue, "de")),
        ("told de a-b", (NoTongue, "de")),
        ("break de ab", (NoTongue, "de")),
        ("patterns de", (NoTongue, "de")),
        ("pare de", (NoTongue, "de")),
        ("pare abcdefgh", (NoTongue, "abcdefgh")),
        ("tongue de 1 1", "ok"),
        ("patterns d", (NoTongue, "d")),
        ("patterns dee", (NoTongue, "dee")),
        ("pattern de A", (NoPattern, 0)),
        ("told de A", (NoWord, 0)),
        ("break de A", (NoWord, 0)),
    ],
}

# Rows that are none, to a desk that has the tongue "en".
NO_ROWS = [
    # Another first word.
    "", " ", "a", "en", "Tongue en 1 1", "tongues en 1 1", "PATTERNS en", "pattern", "patterns", "Patterns en",
    "show en", "pares en", "presses 9 @en x", "breaks en ab", "tell en a-b", "ok", "none", "1",
    # Too few words and too many.
    "tongue", "tongue en", "tongue en 1", "tongue en 1 1 1", "tongue en 1 1 a",
    "pattern en", "pattern en a1b a1b", "told", "told en", "told en a-b a-b", "break", "break en", "break en ab ab",
    "patterns en en", "patterns en a1b", "pare", "pare en en", "press", "press 9",
    # Two blanks, and a blank at an end.
    "tongue  en 1 1", "tongue en  1 1", "tongue en 1  1", "tongue en 1 1 ", " tongue en 1 1",
    "tongue en 1 ", "tongue  1 1",
    "pattern  en a1b", "pattern en  a1b", "pattern en a1b ", " pattern en a1b", "pattern  a1b", "pattern ", "pattern  ",
    "told  en a-b", "told en  a-b", "told en a-b ", " told en a-b", "told  a-b",
    "break  en ab", "break en  ab", "break en ab ", " break en ab", "break  ab",
    "patterns  en", "patterns en ", " patterns en", "patterns ", "pare  en", "pare en ", " pare en", "pare ",
    " press 9 @en x", "press  9 @en x", "press ", "press  ", "press  @en",
    # A NAME that is none.
    "tongue En 1 1", "tongue abcdefghi 1 1", "tongue e1 1 1", "tongue @en 1 1", "tongue e-n 1 1", "tongue 1 1 1",
    "pattern En a1b", "pattern abcdefghi a1b", "pattern @en a1b", "told eN a-b", "told abcdefghi a-b", "told @en a-b",
    "break e.n ab", "break abcdefghi ab", "break @en ab", "patterns eN", "patterns abcdefghi", "patterns @en",
    "patterns 1", "pare EN", "pare abcdefghi", "pare @en",
    # An N that is none, the first and the second one.
    "tongue en 0 1", "tongue en 1 0", "tongue en 21 1", "tongue en 1 21", "tongue en 01 1", "tongue en 1 01",
    "tongue en a 1", "tongue en 1 a", "tongue en +1 1", "tongue en 1 -1", "tongue en 1. 1", "tongue en 1 1.",
    "tongue en 00 1", "tongue en 1 020", "tongue en 100 1", "tongue en 1 200", "tongue en 1_0 1", "tongue en 1 1_0",
    "tongue en " + "1" * 5000 + " 1", "tongue en 1 " + "1" * 5000,
    # A width that is none.
    "press 1 @en x", "press 0 @en x", "press 201 @en x", "press 02 @en x", "press 09 @en x", "press 020 @en x",
    "press 00 @en x", "press a @en x", "press +9 @en x", "press -9 @en x", "press 9. @en x", "press 1_9 @en x",
    "press @en x", "press @en 9 x", "press 1000 @en x", "press 999 @en x", "press 2000 @en x", "press 300 @en x",
    "press " + "9" * 5000 + " @en x", "press 1 ", "press 201 ",
]

# Signs that no text has make a row none, wherever they stand.
NO_TEXTS = [
    None, 0, 1, True, False, ["patterns", "en"], ("patterns", "en"), ["patterns en"], {}, {"patterns": "en"},
    b"patterns en", [], (),
    "patterns en\n", "\tpatterns en", "patterns\ten", "patterns\u00a0en", "patterns \u00e9n", "tongue en 1 \u0661",
    "break en a\u00e9", "break en a\nb", "break en a%b", "pattern en a\u00b2b", "told en a\u2010b", "press 9 @en x\n",
    "press 9 @en x%", "press 9 @en x\u3000y", "break en a\x7f",
]

ROW = re.compile(
    r"tongue [a-z]{1,8}( ([1-9]|1[0-9]|20)){2}"
    r"|(pattern|told|break) [a-z]{1,8} [^ ]*"
    r"|(patterns|pare) [a-z]{1,8}"
    r"|press ([2-9]|[1-9][0-9]|1[0-9][0-9]|200)( [^ ]*)+"
)


class PlainDesk:
    """What a desk is to answer, each row read by its form."""

    def __init__(self):
        self.kept = {}

    def say(self, row):
        if not ROW.fullmatch(row):
            return NO_ROW
        words = row.split(" ")
        if words[0] == "press":
            return self.press(int(words[1]), words[2:])
        if words[0] == "tongue":
            self.kept[words[1]] = ([], {}, int(words[2]), int(words[3]))
            return "ok"
        if words[1] not in self.kept:
            return (NoTongue, words[1])
        return getattr(self, words[0] + "_of")(self.kept[words[1]], *words[2:])

    def pattern_of(self, kept, text):
        pattern = told_or_refused(read_pattern, text)
        if pattern[0] is NoPattern:
            return pattern
        kept[0].append(pattern)
        return "ok"

    def told_of(self, kept, text):
        broken = told_or_refused(read_broken, text)
        if broken[0] is NoWord:
            return broken
        kept[1][broken[0]] = broken[1]
        return "ok"

    def break_of(self, kept, text):
        ahead = re.match("[a-z]*", text).group()
        if ahead != text or text == "":
            return (NoWord, len(ahead))
        return shown_broken((text, plain_broken(kept, text)))

    def patterns_of(self, kept):
        return " ".join(shown_pattern(pattern) for pattern in kept[0]) or "none"

    def pare_of(self, kept):
        left = [kept[0][number] for number in pared(kept[0])]
        struck = len(kept[0]) - len(left)
        kept[0][:] = left
        return str(struck)

    def press(self, width, things):
        for place, thing in enumerate(things):
            if not re.fullmatch("[a-z]+[,.;:!?]?|@[a-z]{1,8}", thing):
                return (NoThing, place)
        name, places, words = "", [], []
        for place, thing in enumerate(things):
            name = thing[1:] if thing.startswith("@") else name
            if name not in self.kept:
                return (NoTongue, name)
            if not thing.startswith("@"):
                word = thing.rstrip(",.;:!?")
                places.append(place)
                words.append((word, thing[len(word):], plain_broken(self.kept[name], word)))
        lines = plain_lines(words, width)
        return (TooNarrow, places[lines]) if isinstance(lines, int) else "|".join(lines) or "none"


def told_desk(rows):
    desk = Desk()
    for row in rows:
        desk.say(row)
    return desk


def known_desk():
    return told_desk([
        "tongue en 2 1", "pattern en a1b", "pattern en 1b", "pattern en 2c", "told en ab-cd",
        "tongue all 1 1", "pattern all 1a", "pattern all 1a",
    ])


def stand(desk):
    # What can be seen of a desk, without a row that changes it.
    rows = ["patterns en", "patterns all", "patterns de", "patterns e", "patterns a"]
    rows.append("press 6 @en aabab abcd @all aaaa")
    rows += [f"break {name} {word}" for name in ("en", "all", "de") for word in ("ab", "aabab", "abcd", "aacb", "xyz")]
    return [told_or_refused(desk.say, row) for row in rows]


def drawn_row(draw):
    name = draw.choice(("a", "ab", "b", "b", "c"))
    number = str(draw.choice((1, 1, 1, 2, 2, 3, 20)))
    word = "".join(draw.choice("ab") for _at in range(draw.randint(0, 7)))
    broken = "".join(sign + draw.choice(("", "", "-")) for sign in word).strip("-")
    pattern = draw.choice(("", "", ".")) + "".join(draw.choice("ab12") for _at in range(draw.randint(1, 4)))
    some_things = (word, "a", "b,", "abab", "aabb.", "@a", "@b", "@ab", "babab?")
    things = [draw.choice(some_things) for _at in range(draw.randint(1, 6))]
    return draw.choice((
        f"tongue {name} {number} {draw.choice((1, 1, 2))}" if draw.randint(0, 3) == 0 else f"patterns {name}",
        f"pattern {name} {pattern}", f"pattern {name} {pattern}", f"told {name} {broken}", f"told {name} {broken}",
        f"break {name} {word}", f"break {name} {word}", f"break {name} {broken}", f"patterns {name}",
        f"pare {name}" if draw.randint(0, 5) == 0 else f"break {name} {word}",
        f"press {draw.randint(2, 15)} @{name} " + " ".join(things),
        f"press {draw.randint(2, 15)} " + " ".join(things),
    ))


class Answers(unittest.TestCase):
    def test_known_talks(self):
        for about, talk in TALKS.items():
            desk = Desk()
            for row, answer in talk:
                with self.subTest(about=about, row=row):
                    self.assertEqual(told_or_refused(desk.say, row), answer)

    def test_known_talks_by_plain_reading(self):
        for about, talk in TALKS.items():
            plain = PlainDesk()
            for row, answer in talk:
                with self.subTest(about=about, row=row):
                    self.assertEqual(plain.say(row), answer)

    def test_answers_are_texts(self):
        desk = known_desk()
        for row in (
            "tongue de 1 1", "pattern en a1b", "told en a-b", "break en ab", "patterns en", "patterns de", "pare en",
            "pare de", "press 9 @en x", "press 9 @en",
        ):
            self.assertIs(type(desk.say(row)), str)

    def test_each_number(self):
        for number in range(1, 21):
            desk = told_desk([f"tongue en {number} 1", "pattern en 1a", f"tongue de 1 {number}", "pattern de 1a"])
            word = "a" * 21
            self.assertEqual(read_broken(desk.say(f"break en {word}")), (word, tuple(range(number, 21))))
            self.assertEqual(read_broken(desk.say(f"break de {word}")), (word, tuple(range(1, 22 - number))))

    def test_each_width(self):
        desk = told_desk(["tongue en 1 1"])
        for width in range(2, 201):
            word = "a" * width
            self.assertEqual(desk.say(f"press {width} @en a {word}"), "a|" + word)
            self.assertEqual(told_or_refused(desk.say, f"press {width} @en {word}."), (TooNarrow, 1))

    def test_twelve_patterns_pared(self):
        texts = "a1 a1b a1b1 b1 1c a2b a2b. .a2 c1c c3c 1c1 a1a".split()
        desk = told_desk(["tongue en 1 1"] + [f"pattern en {text}" for text in texts])
        left = [texts[number] for number in pared([read_pattern(text) for text in texts])]
        self.assertEqual(desk.say("pare en"), str(12 - len(left)))
        self.assertGreater(len(texts), len(left))
        self.assertEqual(desk.say("patterns en"), " ".join(left))

    def test_by_plain_reading(self):
        draw = random.Random(21)
        seen = {}
        for _time in range(60):
            desk, plain = Desk(), PlainDesk()
            for name in ("a", "b"):
                for some in (desk, plain):
                    some.say(f"tongue {name} 1 1")
            for _row in range(60):
                row = drawn_row(draw)
                # Beyond twelve patterns nothing is promised of paring them.
                if row.startswith("pare ") and len(plain.kept.get(row[5:], ([],))[0]) > 12:
                    continue
                answer = plain.say(row)
                self.assertEqual(told_or_refused(desk.say, row), answer, row)
                kind = (row.split(" ")[0], answer[0].__name__ if isinstance(answer, tuple) else "answered")
                seen[kind] = seen.get(kind, 0) + 1
        for kind in (
            ("tongue", "answered"), ("patterns", "answered"), ("patterns", "NoTongue"), ("pattern", "answered"),
            ("pattern", "NoTongue"), ("pattern", "NoPattern"), ("told", "answered"), ("told", "NoTongue"),
            ("told", "NoWord"), ("break", "answered"), ("break", "NoTongue"), ("break", "NoWord"),
            ("pare", "answered"), ("pare", "NoTongue"), ("press", "answered"), ("press", "NoThing"),
            ("press", "NoTongue"), ("press", "TooNarrow"),
        ):
            self.assertGreater(seen.get(kind, 0), 3, kind)


class NoRows(unittest.TestCase):
    def test_known_ones(self):
        desk = known_desk()
        before = stand(desk)
        for row in NO_ROWS:
            with self.subTest(row=row[:60]):
                self.assertEqual(told_or_refused(desk.say, row), NO_ROW)
                self.assertIsNone(ROW.fullmatch(row))
        self.assertEqual(stand(desk), before)

    def test_to_a_new_desk_too(self):
        for row in NO_ROWS:
            self.assertEqual(told_or_refused(Desk().say, row), NO_ROW, row[:60])

    def test_no_text(self):
        desk = known_desk()
        before = stand(desk)
        for row in NO_TEXTS:
            with self.subTest(row=row):
                self.assertEqual(told_or_refused(desk.say, row), NO_ROW)
        self.assertEqual(stand(desk), before)

    def test_rows_by_their_form(self):
        draw = random.Random(22)
        rows = [row for talk in TALKS.values() for row, _answer in talk] + NO_ROWS
        rows = [row for row in rows if len(row) < 60]
        seen = {True: 0, False: 0}
        for _time in range(6000):
            row = draw.choice(rows)
            at = draw.randint(0, len(row))
            row = row[:at] + draw.choice(("", " ", "a", "0", "1", "2", "A", "-", "@")) + row[at + draw.randint(0, 1):]
            if row.startswith("pare "):
                continue
            is_none = ROW.fullmatch(row) is None
            self.assertEqual(told_or_refused(Desk().say, row) == NO_ROW, is_none, row)
            seen[is_none] += 1
        self.assertGreater(min(seen.values()), 1000)


class Kept(unittest.TestCase):
    def test_what_is_refused_changes_nothing(self):
        refused = [
            "pattern en A", "pattern en a0", "pattern en ", "pattern de a1b", "told en A", "told en ab-cd-", "told en ",
            "told de a-b", "break en A", "break en ", "break de ab", "patterns de", "pare de", "tongue en 0 1",
            "tongue en 1 21", "tongue de 1", "tongue En 1 1", "press 9 @en A", "press 9 ", "press 9 ab",
            "press 9 @de ab", "press 2 @en xyz", "press 1 @en ab", "", None,
        ]
        desk = known_desk()
        before = stand(desk)
        for row in refused:
            with self.subTest(row=row):
                self.assertIs(type(told_or_refused(desk.say, row)), tuple)
                self.assertEqual(stand(desk), before)

    def test_two_desks_each_its_own(self):
        one, other = Desk(), Desk()
        one.say("tongue en 1 1")
        self.assertEqual(told_or_refused(other.say, "patterns en"), (NoTongue, "en"))
        other.say("tongue en 2 2")
        one.say("pattern en a1b")
        one.say("told en c-d")
        other.say("pattern en 1b")
        other.say("pattern en 2b")
        self.assertEqual((one.say("patterns en"), other.say("patterns en")), ("a1b", "1b 2b"))
        self.assertEqual((one.say("break en cd"), other.say("break en cd")), ("c-d", "cd"))
        self.assertEqual((one.say("press 3 @en abab"), told_or_refused(other.say, "press 3 @en abab")),
                         ("a-|bab", (TooNarrow, 1)))
        self.assertEqual(other.say("pare en"), "2")
        self.assertEqual((one.say("patterns en"), other.say("patterns en")), ("a1b", "none"))


if __name__ == "__main__":
    unittest.main()
