import copy
import random
import re
import unittest

from breakwords.breakers import Breaker
from breakwords.errors import NoThing, NoTongue
from breakwords.texts import pieces
from breakwords.tongues import Tongues
from tests.helper import ALL_SIGNS, SMALL_LETTERS, listed, listed_words, told_or_refused

THING = re.compile(r"[a-z]+[,.;:!?]?|@[a-z]{1,8}")

# Each text, by blanks, and what is told of it.
PIECES = [
    ("", []),
    ("@en", []),
    ("@en @de @en", []),
    ("@en abc", [(1, "abc", "", (1,))]),
    ("@de abc", [(1, "abc", "", (2,))]),
    ("@en a", [(1, "a", "", ())]),
    # Each of the marks.
    (
        "@en ab, ab. ab; ab: ab! ab? ab",
        [
            (1, "ab", ",", (1,)), (2, "ab", ".", (1,)), (3, "ab", ";", (1,)), (4, "ab", ":", (1,)),
            (5, "ab", "!", (1,)), (6, "ab", "?", (1,)), (7, "ab", "", (1,)),
        ],
    ),
    ("@en a.", [(1, "a", ".", ())]),
    # A told word, with a mark and without.
    ("@en told told;", [(1, "told", "", (2,)), (2, "told", ";", (2,))]),
    ("@de told", [(1, "told", "", ())]),
    # An @ amid the text: from there on, not back.
    ("@en abc @de abc", [(1, "abc", "", (1,)), (3, "abc", "", (2,))]),
    ("@en @de abc", [(2, "abc", "", (2,))]),
    ("@en abc @en abc", [(1, "abc", "", (1,)), (3, "abc", "", (1,))]),
    (
        "@de abc. @en abc, @en @de abc @abcdefgh abc!",
        [(1, "abc", ".", (2,)), (3, "abc", ",", (1,)), (6, "abc", "", (2,)), (8, "abc", "!", ())],
    ),
    ("@en abc @de", [(1, "abc", "", (1,))]),
    # A word that is as a tongue's name is a word; more gaps than one.
    ("@en en de @de en", [(1, "en", "", ()), (2, "de", "", ()), (4, "en", "", ())]),
    ("@en abcabcab?", [(1, "abcabcab", "?", (1, 4, 7))]),
    # A head and a tail.
    ("@wide ababab", [(1, "ababab", "", (3,))]),
]

# Things that can not stand in a text.
NO_THINGS = [
    # Marks: alone, two of them, ahead of the word, within it.
    ",", ".", ";", ":", "!", "?", "ab,,", "ab?!", "ab..", ",.", ".ab", ",ab,", "a.b", "a,b,",
    # Other signs.
    "", " ", "A", "Ab", "aB", "ab1", "1", "7,", "a-b", "ab-", "-", "a b", "ab ", " ab", "ab ,", "a'b", "ab|",
    "(ab)", "a_b",
    # An @ alone, an @ without a name behind, an @ elsewhere.
    "@", "@@", "@@en", "@en@", "a@", "a@en", "en@", "@abcdefghi", "@abcdefghijkl", "@En", "@eN", "@e1", "@e-n",
    "@en,", "@en.", "@,", "@ en", "@en ", "@1",
]


def known_tongues():
    tongues = Tongues()
    tongues.put("en", Breaker(listed("a1b"), listed_words("to-ld"), 1, 1))
    tongues.put("de", Breaker(listed("b1c"), [], 1, 1))
    tongues.put("abcdefgh", Breaker([], [], 1, 1))
    tongues.put("wide", Breaker(listed("a1b"), [], 2, 3))
    return tongues


class Told(unittest.TestCase):
    def test_known_ones(self):
        tongues = known_tongues()
        for text, told in PIECES:
            with self.subTest(text=text):
                self.assertEqual(pieces(tongues, text.split()), told)

    def test_kinds(self):
        told = pieces(known_tongues(), ["@en", "abc", "told."])
        self.assertIs(type(told), list)
        for piece in told:
            self.assertEqual([type(value) for value in piece], [int, str, str, tuple])
            self.assertIs(type(piece), tuple)

    def test_without_tongues(self):
        self.assertEqual(pieces(Tongues(), []), [])

    def test_names_of_one_and_of_eight_letters(self):
        tongues = Tongues()
        for name in ("a", "ab", "abcdefgh"):
            tongues.put(name, Breaker(listed("a1b"), [], 1, 1))
            self.assertEqual(pieces(tongues, ["@" + name, "ab"]), [(1, "ab", "", (1,))])

    def test_each_letter(self):
        told = pieces(known_tongues(), ["@de", SMALL_LETTERS + "!"])
        self.assertEqual(told, [(1, SMALL_LETTERS, "!", (2,))])

    def test_sixty_things(self):
        text = ["@en"] + ["abc,"] * 58 + ["@de"]
        self.assertEqual(pieces(known_tongues(), text), [(place, "abc", ",", (1,)) for place in range(1, 59)])

    def test_again_behind_another_breaker(self):
        tongues = known_tongues()
        text = ["@en", "abc", "@de", "abc"]
        self.assertEqual([piece[3] for piece in pieces(tongues, text)], [(1,), (2,)])
        tongues.put("en", Breaker(listed("1b1"), [], 1, 1))
        self.assertEqual([piece[3] for piece in pieces(tongues, text)], [(1, 2), (2,)])
        tongues.put("de", Breaker([], [], 1, 1))
        self.assertEqual([piece[3] for piece in pieces(tongues, text)], [(1, 2), ()])


class Refused(unittest.TestCase):
    def test_other_things(self):
        tongues = known_tongues()
        for thing in NO_THINGS:
            for ahead in ([], ["@en"], ["@en", "abc,", "@de"]):
                for behind in ([], ["abc"], ["@en", "abc."]):
                    with self.subTest(thing=thing, ahead=ahead, behind=behind):
                        text = ahead + [thing] + behind
                        self.assertEqual(told_or_refused(pieces, tongues, text), (NoThing, len(ahead)))

    def test_the_first_of_several(self):
        tongues = known_tongues()
        for text, place in (
            ("@en A abc B", 1),
            ("@en abc , abc a-b", 2),
            ("@ A", 0),
            ("@en abc abc @abcdefghi ..", 3),
        ):
            with self.subTest(text=text):
                self.assertEqual(told_or_refused(pieces, tongues, text.split()), (NoThing, place))

    def test_other_things_go_ahead_of_all_else(self):
        tongues = known_tongues()
        for text, place in (
            # Ahead of a word without a tongue, and of a name without a breaker, though these stand first.
            ("abc A", 1),
            ("@fr A", 1),
            ("@fr abc abc, @", 3),
            ("abc @fr abc .", 3),
            ("A abc", 0),
            ("A @fr", 0),
        ):
            with self.subTest(text=text):
                self.assertEqual(told_or_refused(pieces, tongues, text.split()), (NoThing, place))
                self.assertEqual(told_or_refused(pieces, Tongues(), text.split()), (NoThing, place))

    def test_tongues_that_lack(self):
        tongues = known_tongues()
        for text, name in (
            # A word ahead of all @.
            ("abc", ""),
            ("abc.", ""),
            ("abc @en", ""),
            ("told abc @en abc", ""),
            # A name without a breaker, with words behind it and without.
            ("@fr", "fr"),
            ("@fr abc", "fr"),
            ("@fr @en abc", "fr"),
            ("@en abc @fr", "fr"),
            ("@en abc @fr abc", "fr"),
            ("@e abc", "e"),
            ("@enn abc", "enn"),
            ("@abcdefg abc", "abcdefg"),
            # Of both, and of several, the first in the text.
            ("abc @fr", ""),
            ("abc @fr abc", ""),
            ("@fr abc @it", "fr"),
            ("@en @it @fr", "it"),
        ):
            with self.subTest(text=text):
                self.assertEqual(told_or_refused(pieces, tongues, text.split()), (NoTongue, name))

    def test_each_thing_of_up_to_two_signs(self):
        tongues = known_tongues()
        for name in SMALL_LETTERS:
            tongues.put(name, Breaker([], [], 1, 1))
        for one in [""] + ALL_SIGNS:
            for other in [""] + ALL_SIGNS:
                thing = one + other
                told = told_or_refused(pieces, tongues, ["@en", thing])
                self.assertEqual(told != (NoThing, 1), THING.fullmatch(thing) is not None, thing)

    def test_drawn_things(self):
        draw = random.Random(18)
        tongues = known_tongues()
        seen = {True: 0, False: 0}
        for _time in range(4000):
            thing = "".join(draw.choice("@@abz,.?-A1 ") for _at in range(draw.randint(0, 4)))
            stands = THING.fullmatch(thing) is not None
            told = told_or_refused(pieces, tongues, ["@en", thing])
            self.assertEqual(told != (NoThing, 1), stands, thing)
            seen[stands] += 1
        self.assertGreater(min(seen.values()), 300)

    def test_what_is_refused_changes_nothing(self):
        tongues = known_tongues()
        for text in (["@en", "abc", "A"], ["abc"], ["@fr", "abc"]):
            told_or_refused(pieces, tongues, text)
            self.assertEqual(tongues.names(), ["abcdefgh", "de", "en", "wide"])
            self.assertEqual(pieces(tongues, ["@en", "abc"]), [(1, "abc", "", (1,))])


class HandedIn(unittest.TestCase):
    def test_the_list_stays(self):
        tongues = known_tongues()
        for things in [text.split() for text, _told in PIECES] + [["@en", thing] for thing in NO_THINGS]:
            before = copy.deepcopy(things)
            told_or_refused(pieces, tongues, things)
            self.assertEqual(things, before)

    def test_the_list_told_is_the_askers_own(self):
        tongues = known_tongues()
        text = ["@en", "abc", "ab"]
        told = pieces(tongues, text)
        self.assertIsNot(told, pieces(tongues, text))
        told.clear()
        self.assertEqual(pieces(tongues, text), [(1, "abc", "", (1,)), (2, "ab", "", (1,))])
        text[1] = "b"
        self.assertEqual(pieces(tongues, text), [(1, "b", "", ()), (2, "ab", "", (1,))])


if __name__ == "__main__":
    unittest.main()
