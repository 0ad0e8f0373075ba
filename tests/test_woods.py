import copy
import random
import unittest

from breakwords.patterns import is_pattern
from breakwords.values import values
from breakwords.woods import patterns_in, wood_of, wood_values
from tests.helper import SMALL_LETTERS, drawn_patterns, drawn_word, listed, plain_values

LETTERS_22 = "abcdefghijklmnopqrstuv"

LISTS = [
    "",
    "a1b",
    "2n .ab1c a3b.",
    "a1b2c a2b1c",
    "a a1b ab2c .a .a1b. 1a.",
    "hy3ph he2n hena4 hen5at 1na n2at 1tio 2io o2n",
    "1a 2a a3 a b9",
    ".1a. .a2. .a .2a3",
]


def names_in(wood):
    # Each knot comes once for each row of ways to it, so its count tells how many there are.
    rows = [("", 0)]
    for name, number in rows:
        rows.extend((name + sign, at) for sign, at in wood[number][0])
        if len(rows) > 5000:
            raise AssertionError("the ways never end")
    return rows


def plain_knots(patterns):
    knots = {"": None}
    for signs, _numbers in patterns:
        for end in range(len(signs) + 1):
            knots[signs[:end]] = None
    for signs, _numbers in patterns:
        like = [numbers for other, numbers in patterns if other == signs]
        knots[signs] = tuple(max(column) for column in zip(*like))
    return knots


def renumbered(wood, seed):
    order = list(range(1, len(wood)))
    random.Random(seed).shuffle(order)
    order = [0] + order
    turned = [None] * len(wood)
    for number, (ways, numbers) in enumerate(wood):
        turned[order[number]] = (tuple((sign, order[at]) for sign, at in ways), numbers)
    return turned


def long_patterns():
    rising = tuple(place % 10 for place in range(23))
    return [
        (LETTERS_22, rising),
        ("." + LETTERS_22[1:], (0,) + rising[1:]),
        (LETTERS_22[1:] + ".", rising[:-1] + (0,)),
        ("." + LETTERS_22[:20] + ".", (0,) + rising[1:-1] + (0,)),
        ("a" * 22, rising),
        ("." + "a" * 20 + ".", (0,) + rising[:21] + (0,)),
        ("a" * 21 + "b", rising[::-1]),
    ]


def all_lists():
    lists = [listed(texts) for texts in LISTS]
    lists += [drawn_patterns(seed, 1 + seed % 30, "ab" if seed % 2 else "abcz", 1 + seed % 7) for seed in range(40)]
    lists.append(drawn_patterns(99, 60, SMALL_LETTERS, 22))
    lists.append(drawn_patterns(98, 60, "a", 22))
    lists.append(long_patterns())
    return lists


class Form(unittest.TestCase):
    def test_of_no_patterns(self):
        self.assertEqual(wood_of([]), [((), None)])

    def test_of_one_pattern(self):
        wood = wood_of(listed("a1b"))
        self.assertEqual(len(wood), 3)
        (ways, numbers) = wood[0]
        self.assertEqual((len(ways), ways[0][0], numbers), (1, "a", None))
        middle = wood[ways[0][1]]
        self.assertEqual((len(middle[0]), middle[0][0][0], middle[1]), (1, "b", None))
        self.assertEqual(wood[middle[0][0][1]], ((), (0, 1, 0)))

    def test_like_signs_have_the_greatest_numbers_place_for_place(self):
        wood = wood_of(listed("1a2b a3b4 5ab ab"))
        named = {name: wood[number][1] for name, number in names_in(wood)}
        self.assertEqual(named, {"": None, "a": None, "ab": (5, 3, 4)})

    def test_numbers_of_0_are_numbers(self):
        wood = wood_of(listed("ab"))
        named = {name: wood[number][1] for name, number in names_in(wood)}
        self.assertEqual(named, {"": None, "a": None, "ab": (0, 0, 0)})

    def test_signs_that_begin_others(self):
        wood = wood_of(listed("a1b2c a3 .a .a4."))
        named = {name: wood[number][1] for name, number in names_in(wood)}
        self.assertEqual(named, {
            "": None, "a": (0, 3), "ab": None, "abc": (0, 1, 2, 0),
            ".": None, ".a": (0, 0, 0), ".a.": (0, 0, 4, 0),
        })

    def test_each_list(self):
        for patterns in all_lists():
            with self.subTest(patterns=patterns):
                wood = wood_of(patterns)
                rows = names_in(wood)
                self.assertEqual(sorted(number for _name, number in rows), list(range(len(wood))))
                self.assertEqual(rows[0], ("", 0))
                named = {name: wood[number][1] for name, number in rows}
                self.assertEqual(named, plain_knots(patterns))

    def test_ways_by_rising_signs(self):
        for patterns in all_lists() + [listed("z1 .1a b1 a. ab aa a2")]:
            for ways, _numbers in wood_of(patterns):
                signs = [sign for sign, _number in ways]
                self.assertEqual(signs, sorted(set(signs)))

    def test_kinds(self):
        wood = wood_of(listed(".a1b a2 a. .a"))
        self.assertIs(type(wood), list)
        for knot in wood:
            self.assertIs(type(knot), tuple)
            self.assertEqual(len(knot), 2)
            self.assertIs(type(knot[0]), tuple)
            self.assertIn(type(knot[1]), (type(None), tuple))
            for way in knot[0]:
                self.assertEqual([type(part) for part in way], [str, int])
                self.assertIs(type(way), tuple)
                self.assertEqual(len(way[0]), 1)


class Values(unittest.TestCase):
    def words_for(self, seed, patterns):
        letters = "".join(sorted(set("".join(signs for signs, _numbers in patterns)) - {"."})) + "x"
        words = [drawn_word(seed * 100 + length, letters, length) for length in range(1, 21)]
        words += [signs.strip(".")[:20] for signs, _numbers in patterns]
        return words + ["a", "aa", "a" * 20]

    def test_a_known_word(self):
        wood = wood_of(listed("hy3ph he2n hena4 hen5at 1na n2at 1tio 2io o2n"))
        self.assertEqual(wood_values(wood, "hyphenation"), [0, 3, 0, 0, 2, 5, 4, 2, 0, 2])

    def test_no_patterns(self):
        self.assertEqual(wood_values([((), None)], "a"), [])
        self.assertEqual(wood_values([((), None)], "word"), [0, 0, 0])

    def test_the_plain_reading(self):
        for seed, patterns in enumerate(all_lists()):
            wood = wood_of(patterns)
            for word in self.words_for(seed, patterns):
                told = plain_values(patterns, word)
                self.assertEqual(values(patterns, word), told)
                self.assertEqual(wood_values(wood, word), told, (patterns, word))

    def test_knots_numbered_in_another_order(self):
        for seed, patterns in enumerate(all_lists()):
            for turn in range(3):
                wood = renumbered(wood_of(patterns), turn)
                for word in self.words_for(seed, patterns):
                    self.assertEqual(wood_values(wood, word), plain_values(patterns, word), (patterns, word))

    def test_patterns_of_22_signs(self):
        patterns = long_patterns()
        wood = wood_of(patterns)
        for word in (LETTERS_22[:20], "a" * 20, LETTERS_22, "a" * 22, "a" * 25, "a" * 21 + "b", LETTERS_22[1:]):
            told = plain_values(patterns, word)
            self.assertGreater(max(told), 0, word)
            self.assertEqual(wood_values(wood, word), told)

    def test_a_wood_written_by_hand(self):
        wood = [((("a", 3), ("b", 1)), None), ((), (2, 0)), ((), (0, 1, 0)), ((("b", 2),), None)]
        self.assertEqual(wood_values(wood, "abb"), [2, 2])
        self.assertEqual(wood_values(wood, "aab"), [0, 2])
        self.assertEqual(patterns_in(wood), [("ab", (0, 1, 0)), ("b", (2, 0))])


class Patterns(unittest.TestCase):
    def test_sorted(self):
        told = patterns_in(wood_of(listed("b1 a2b .a1 a3 1ab4 a.")))
        self.assertEqual(told, [
            (".a", (0, 0, 1)), ("a", (0, 3)), ("a.", (0, 0, 0)), ("ab", (1, 2, 4)), ("b", (0, 1)),
        ])

    def test_none(self):
        self.assertEqual(patterns_in(wood_of([])), [])
        self.assertEqual(patterns_in([((), None)]), [])

    def test_each_list_and_its_wood_again(self):
        for patterns in all_lists():
            for wood in (wood_of(patterns), renumbered(wood_of(patterns), 5)):
                told = patterns_in(wood)
                known = plain_knots(patterns)
                self.assertEqual(told, sorted((name, known[name]) for name in known if known[name] is not None))
                self.assertTrue(all(is_pattern(pattern) for pattern in told))
                again = wood_of(told)
                self.assertEqual(patterns_in(again), told)
                self.assertEqual(
                    {name: again[number][1] for name, number in names_in(again)},
                    {name: wood[number][1] for name, number in names_in(wood)},
                )

    def test_a_list_without_like_signs_comes_back(self):
        patterns = listed("hy3ph he2n hena4 hen5at 1na n2at 1tio 2io o2n")
        self.assertEqual(patterns_in(wood_of(patterns)), sorted(patterns))


class Kept(unittest.TestCase):
    def test_what_is_handed_in_stays(self):
        patterns = listed("a1b .a2 b3c. 1b a2b")
        before = copy.deepcopy(patterns)
        wood = wood_of(patterns)
        self.assertEqual(patterns, before)
        wood_before = copy.deepcopy(wood)
        wood_values(wood, "abcab")
        patterns_in(wood)
        self.assertEqual(wood, wood_before)

    def test_an_emptied_told_list_changes_no_later_answer(self):
        for texts in LISTS:
            patterns = listed(texts)
            wood = wood_of(patterns)
            for ask in (
                lambda: wood_of(patterns),
                lambda: wood_values(wood, "abcab"),
                lambda: wood_values(wood, "a"),
                lambda: patterns_in(wood),
            ):
                told = ask()
                before = list(told)
                told.clear()
                self.assertEqual(ask(), before)
                told.append("more")
                self.assertEqual(ask(), before)

    def test_a_wood_stays_when_its_patterns_change(self):
        patterns = listed("a1b")
        wood = wood_of(patterns)
        patterns.append(("b", (9, 9)))
        self.assertEqual(wood, wood_of(listed("a1b")))


if __name__ == "__main__":
    unittest.main()
