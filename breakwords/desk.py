"""A desk: keeps tongues, is told rows, and answers each with a text."""

from breakwords.breakers import Breaker, with_patterns, with_told
from breakwords.errors import NoRow, NoWord
from breakwords.pared import pared
from breakwords.patterns import read_pattern, shown_pattern
from breakwords.press import pressed
from breakwords.tongues import Tongues, is_name
from breakwords.words import is_letter, read_broken

# How many words a row has, by its first one; the row "press" may have more.
COUNTS = {"tongue": 4, "pattern": 3, "told": 3, "break": 3, "patterns": 2, "pare": 2, "press": 3}

# By its code, as it may not be written within a text.
PERCENT_SIGN = 37


def is_text(row):
    return isinstance(row, str) and all([" " <= sign <= "~" and ord(sign) != PERCENT_SIGN for sign in row])


def is_number(text, least, most):
    return text in [str(number) for number in range(least, most + 1)]


def has_its_count(words):
    if words[0] not in COUNTS:
        return False
    count = COUNTS[words[0]]
    return len(words) == count or (words[0] == "press" and len(words) > count)


def is_row(words):
    if not has_its_count(words):
        return False
    if words[0] == "press":
        return is_number(words[1], 2, 200)
    if words[0] == "tongue" and not (is_number(words[2], 1, 20) and is_number(words[3], 1, 20)):
        return False
    return is_name(words[1])


def words_of_row(row):
    if not is_text(row):
        raise NoRow("a row is a text")
    words = row.split(" ")
    if not is_row(words):
        raise NoRow(f"no row is {row!r}")
    return words


def check_word(text):
    if text == "":
        raise NoWord(0)
    for place, sign in enumerate(text):
        if not is_letter(sign):
            raise NoWord(place)


def shown_word(breaker, text):
    check_word(text)
    return breaker.shown(text)


def parted(texts, sign):
    return "none" if len(texts) == 0 else sign.join(texts)


def with_pattern_more(breaker, text):
    return with_patterns(breaker, breaker.patterns + [read_pattern(text)])


def without_needless(breaker):
    return with_patterns(breaker, [breaker.patterns[number] for number in pared(breaker.patterns)])


class Desk:
    def __init__(self):
        self.tongues = Tongues()

    def say(self, row):
        words = words_of_row(row)
        if words[0] == "press":
            return parted(pressed(self.tongues, words[2:], int(words[1])), "|")
        name = words[1]
        if words[0] == "tongue":
            return self.keep(name, Breaker([], [], int(words[2]), int(words[3])))
        breaker = self.tongues.breaker_of(name)
        if words[0] == "pattern":
            return self.keep(name, with_pattern_more(breaker, words[2]))
        if words[0] == "told":
            return self.keep(name, with_told(breaker, read_broken(words[2])))
        if words[0] == "break":
            return shown_word(breaker, words[2])
        if words[0] == "patterns":
            return parted([shown_pattern(pattern) for pattern in breaker.patterns], " ")
        return self.pare(name, breaker)

    def keep(self, name, breaker):
        self.tongues.put(name, breaker)
        return "ok"

    def pare(self, name, breaker):
        left = without_needless(breaker)
        self.keep(name, left)
        return str(len(breaker.patterns) - len(left.patterns))
