import copy
import itertools
import unittest

from breakwords.views import first_view, last_pairs, next_views
from tests.helper import drawn_patterns, drawn_word, listed, plain_values

TWO_LISTS = [
    ("", ""),
    ("a1b", ""),
    ("", "1a."),
    ("a1b .a2 b3a.", "a1b 4ba a."),
    (".a1b .ab2a. 1b", "2a3 aa1a"),
    ("a1bc ab2c abc3", ".4abc .ab5 1c."),
    ("1aa2aa3 a4a. .a5a", "a1a1a1a .6aa aa7."),
]


def all_pairs_of_lists():
    pairs = [(listed(one), listed(other)) for one, other in TWO_LISTS]
    for seed in range(20):
        pairs.append((drawn_patterns(seed, seed % 8, "ab", 4), drawn_patterns(seed + 100, 6, "abc", 5)))
    return pairs


def plain_tail(patterns, read):
    for begin in range(len(read) + 1):
        if begin == len(read) or any(signs.startswith(read[begin:]) for signs, _numbers in patterns):
            return read[begin:]


def plain_number(patterns, read, gap):
    # The gap lies behind so many letters, so one place farther on in what was read.
    numbers = [0]
    for signs, all_numbers in patterns:
        for begin in range(len(read) - len(signs) + 1):
            if read[begin:begin + len(signs)] == signs and 0 <= gap + 1 - begin <= len(signs):
                numbers.append(all_numbers[gap + 1 - begin])
    return max(numbers)


def plain_view(one, other, letters, gap):
    read = "." + letters
    tail = plain_tail(one + other, read)
    if gap is None:
        return (tail, None, 0, 0)
    return (tail, len(letters) - gap, plain_number(one, read, gap), plain_number(other, read, gap))


def read_word(one, other, word):
    # What is settled for each gap, as it comes.
    far = first_view(one, other)
    near = {}
    settled = {}
    for count, letter in enumerate(word, start=1):
        for gap, view in list(near.items()):
            views, pairs = next_views(one, other, view, letter)
            if len(views) + len(pairs) != 1:
                raise AssertionError((view, letter, views, pairs))
            near.pop(gap)
            if views:
                near[gap] = views[0]
            else:
                settled.setdefault(gap, []).extend(pairs)
        (views, pairs) = next_views(one, other, far, letter)
        if len(views) != 2 or pairs:
            raise AssertionError((far, letter, views, pairs))
        far, near[count] = views
    for gap, view in list(near.items()) + [(None, far)]:
        pairs = last_pairs(one, other, view)
        if pairs:
            settled.setdefault(gap, []).extend(pairs)
    return settled


class First(unittest.TestCase):
    def test_where_some_pattern_begins_with_a_full_stop(self):
        self.assertEqual(first_view(listed(".a1"), []), (".", None, 0, 0))
        self.assertEqual(first_view([], listed("a1b .b2a")), (".", None, 0, 0))
        self.assertEqual(first_view(listed("a1"), listed(".1b.")), (".", None, 0, 0))

    def test_where_none_does(self):
        self.assertEqual(first_view([], []), ("", None, 0, 0))
        self.assertEqual(first_view(listed("a1b"), listed("2b")), ("", None, 0, 0))
        self.assertEqual(first_view(listed("a1."), listed("ab.")), ("", None, 0, 0))


class ByLetter(unittest.TestCase):
    def test_from_behind_none_two_views_in_order(self):
        one, other = listed("ab1 b3 .a5"), listed("2ab4c a6")
        self.assertEqual(
            next_views(one, other, (".", None, 0, 0), "a"),
            ([(".a", None, 0, 0), (".a", 0, 5, 6)], []),
        )
        self.assertEqual(
            next_views(one, other, (".a", None, 0, 0), "b"),
            ([("ab", None, 0, 0), ("ab", 0, 3, 0)], []),
        )
        self.assertEqual(
            next_views(one, other, ("ab", None, 0, 0), "c"),
            ([("abc", None, 0, 0), ("abc", 0, 0, 0)], []),
        )

    def test_from_another_one_a_view_with_behind_one_more(self):
        one, other = listed("a1b ab1 b3"), listed("2ab4c a6")
        self.assertEqual(next_views(one, other, ("a", 0, 0, 6), "b"), ([("ab", 1, 1, 6)], []))
        self.assertEqual(next_views(one, other, ("ab", 0, 3, 0), "c"), ([("abc", 1, 3, 4)], []))
        self.assertEqual(next_views(one, other, ("ab", 1, 1, 6), "c"), ([("abc", 2, 1, 6)], []))

    def test_a_tail_as_long_as_behind_is_not_settled(self):
        one, other = listed("1ab"), listed("3ab")
        self.assertEqual(next_views(one, other, ("", 0, 0, 0), "a"), ([("a", 1, 0, 0)], []))
        self.assertEqual(next_views(one, other, ("a", 1, 0, 0), "b"), ([("ab", 2, 1, 3)], []))
        self.assertEqual(next_views(one, other, ("ab", 2, 1, 3), "a"), ([], [(1, 3)]))

    def test_it_is_settled_where_the_tail_is_shorter(self):
        one, other = listed("a1b ab1 b3"), listed("2ab4c a6")
        self.assertEqual(next_views(one, other, ("ab", 1, 1, 6), "a"), ([], [(1, 6)]))
        self.assertEqual(next_views(one, other, ("abc", 1, 3, 4), "b"), ([], [(3, 4)]))

    def test_a_letter_that_stands_in_no_pattern(self):
        one, other = listed("a1b .a"), listed("ab2")
        strange = ([("", None, 0, 0), ("", 0, 0, 0)], [])
        self.assertEqual(next_views(one, other, (".", None, 0, 0), "x"), strange)
        self.assertEqual(next_views(one, other, ("ab", None, 0, 0), "x"), strange)
        self.assertEqual(next_views(one, other, ("ab", 0, 0, 2), "x"), ([], [(0, 2)]))
        self.assertEqual(next_views(one, other, ("", 0, 0, 0), "x"), ([], [(0, 0)]))
        self.assertEqual(next_views(one, other, ("ab", 1, 1, 0), "z"), ([], [(1, 0)]))

    def test_no_patterns(self):
        self.assertEqual(next_views([], [], ("", None, 0, 0), "a"), ([("", None, 0, 0), ("", 0, 0, 0)], []))
        self.assertEqual(next_views([], [], ("", 0, 0, 0), "a"), ([], [(0, 0)]))

    def test_two_patterns_of_the_same_signs_both_fit(self):
        one = listed("1a3b a2b4")
        self.assertEqual(next_views(one, [], ("a", 0, 0, 0), "b"), ([("ab", 1, 3, 0)], []))
        self.assertEqual(next_views(one, [], ("a", None, 0, 0), "b")[0][1], ("ab", 0, 4, 0))

    def test_a_lesser_number_does_not_win(self):
        one, other = listed("a1b a5"), listed("a7b a2")
        self.assertEqual(next_views(one, other, ("a", 0, 5, 2), "b"), ([("ab", 1, 5, 7)], []))

    def test_views_as_the_words_tell_them(self):
        for one, other in all_pairs_of_lists():
            for length in range(5):
                for letters in itertools.product("abc", repeat=length):
                    self.check_by_each_letter(one, other, "".join(letters))

    def check_by_each_letter(self, one, other, read):
        for letter in "abcz":
            later = read + letter
            far = plain_view(one, other, read, None)
            if not read:
                self.assertEqual(first_view(one, other), far)
            self.assertEqual(next_views(one, other, far, letter), (
                [plain_view(one, other, later, None), plain_view(one, other, later, len(later))], []
            ))
            for gap in range(1, len(read) + 1):
                view = plain_view(one, other, read, gap)
                if len(view[0]) >= view[1]:
                    tail, behind, ones, others = plain_view(one, other, later, gap)
                    told = ([(tail, behind, ones, others)], [])
                    if len(tail) < behind:
                        told = ([], [(ones, others)])
                    self.assertEqual(next_views(one, other, view, letter), told, (one, other, later, gap))

    def test_kinds(self):
        views, pairs = next_views(listed("a1"), [], ("", None, 0, 0), "a")
        self.assertEqual([type(views), type(pairs)], [list, list])
        self.assertIs(type(next_views(listed("a1"), [], ("", None, 0, 0), "a")), tuple)
        self.assertEqual([type(part) for part in views[1]], [str, int, int, int])
        self.assertIs(type(next_views([], [], ("", 0, 0, 0), "a")[1][0]), tuple)


class ByEnd(unittest.TestCase):
    def test_pairs_of_behind_1_or_more(self):
        one, other = listed("a3b. b1"), listed("4ab. 2b.")
        self.assertEqual(last_pairs(one, other, ("ab", 1, 0, 0)), [(3, 2)])
        self.assertEqual(last_pairs(one, other, ("ab", 2, 0, 0)), [(0, 4)])
        self.assertEqual(last_pairs(one, other, ("b", 1, 5, 1)), [(5, 2)])
        self.assertEqual(last_pairs(listed("a1b"), listed("ab1"), ("ab", 1, 1, 0)), [(1, 0)])
        self.assertEqual(last_pairs(listed(".a1b."), [], (".ab", 1, 0, 0)), [(1, 0)])

    def test_none_of_others(self):
        one, other = listed("a3b. b1."), listed("4ab. .ab")
        for view in ((".", None, 0, 0), ("ab", None, 0, 0), ("", None, 0, 0), ("ab", 0, 0, 0), ("b", 0, 7, 7)):
            self.assertEqual(last_pairs(one, other, view), [])
        self.assertEqual(last_pairs([], [], ("", 0, 0, 0)), [])

    def test_patterns_without_a_full_stop_tell_nothing_more(self):
        self.assertEqual(last_pairs(listed("a1b"), listed(".a3b"), (".ab", 1, 0, 0)), [(0, 0)])

    def test_pairs_as_the_words_tell_them(self):
        for one, other in all_pairs_of_lists():
            for length in range(1, 6):
                for letters in itertools.product("ab", repeat=length):
                    word = "".join(letters)
                    for gap in range(1, length + 1):
                        view = plain_view(one, other, word, gap)
                        if len(view[0]) >= view[1]:
                            both = (plain_values(one, word), plain_values(other, word))
                            told = [] if gap == length else [(both[0][gap - 1], both[1][gap - 1])]
                            self.assertEqual(last_pairs(one, other, view), told, (one, other, word, gap))


class Whole(unittest.TestCase):
    def check(self, one, other, word):
        told = zip(plain_values(one, word), plain_values(other, word))
        known = {gap: [pair] for gap, pair in enumerate(told, start=1)}
        self.assertEqual(read_word(one, other, word), known, (one, other, word))

    def test_words_of_1_to_20_letters(self):
        for seed, (one, other) in enumerate(all_pairs_of_lists()):
            for length in range(1, 21):
                self.check(one, other, drawn_word(seed * 100 + length, "ab", length))
                self.check(one, other, drawn_word(seed * 100 + length + 50, "abcz", length))
                self.check(one, other, "a" * length)

    def test_all_short_words(self):
        for one, other in all_pairs_of_lists()[:12]:
            for length in range(1, 6):
                for letters in itertools.product("ab", repeat=length):
                    self.check(one, other, "".join(letters))

    def test_patterns_of_22_signs(self):
        twenty = "abcdefghijklmnopqrst"
        rising = tuple(place % 10 for place in range(23))
        one = [("." + twenty + ".", (0,) + rising[1:-1] + (0,)), ("a" * 22, rising)]
        other = [(twenty + "uv", rising), ("." + "a" * 20 + ".", (0,) + rising[:21] + (0,)), (twenty, rising[:21])]
        for word in (twenty, "a" * 20, twenty + "uv", "a" * 22, "a" * 24, twenty[:19]):
            self.check(one, other, word)
            self.check(other, one, word)

    def test_long_lists(self):
        one, other = drawn_patterns(1, 60, "ab", 22), drawn_patterns(2, 60, "abc", 6)
        for word in ("abababababababababab", "aabbcaabbcaabbcaabbc"):
            self.check(one, other, word)


class Kept(unittest.TestCase):
    def test_what_is_handed_in_stays(self):
        one, other = listed("a1b .a2 b3a. a2b"), listed("4ba a.")
        before = copy.deepcopy((one, other))
        view = first_view(one, other)
        next_views(one, other, view, "a")
        last_pairs(one, other, ("ab", 1, 0, 0))
        self.assertEqual((one, other), before)

    def test_an_emptied_told_list_changes_no_later_answer(self):
        one, other = listed("a1b .a2 b3a."), listed("4ba a.")
        for ask in (
            lambda: next_views(one, other, (".", None, 0, 0), "a")[0],
            lambda: next_views(one, other, (".", None, 0, 0), "a")[1],
            lambda: next_views(one, other, (".a", 0, 2, 0), "b")[0],
            lambda: next_views(one, other, (".a", 0, 2, 0), "x")[0],
            lambda: next_views(one, other, (".a", 0, 2, 0), "x")[1],
            lambda: last_pairs(one, other, ("ba", 1, 0, 0)),
            lambda: last_pairs(one, other, ("ba", 0, 0, 0)),
        ):
            told = ask()
            before = list(told)
            told.clear()
            told.append("more")
            self.assertEqual(ask(), before)


if __name__ == "__main__":
    unittest.main()
