"""What several tests need."""

import itertools
import random

from breakwords.errors import WordError
from breakwords.patterns import is_pattern, read_pattern
from breakwords.views import first_view, last_pairs, next_views
from breakwords.words import is_word, read_broken

ALL_SIGNS = [chr(code) for code in range(ord(" "), ord("~") + 1)]
SMALL_LETTERS = "abcdefghijklmnopqrstuvwxyz"


def place_by_form(form, text):
    # A beginning can be gone on with just where the form fits it, or it with a letter more.
    for place in range(len(text)):
        beginning = text[:place + 1]
        if not form.fullmatch(beginning) and not form.fullmatch(beginning + "a"):
            return place
    return len(text)


def told_or_refused(deed, *given):
    # What is told; or, of a refusal, its class and its field.
    try:
        return deed(*given)
    except WordError as refusal:
        return (type(refusal),) + tuple(vars(refusal).values())


def listed(texts):
    return [read_pattern(text) for text in texts.split()]


def listed_words(texts):
    return [read_broken(text) for text in texts.split()]


def plain_values(patterns, word):
    framed = "." + word + "."
    told = []
    for gap in range(1, len(word)):
        numbers = [0]
        for signs, all_numbers in patterns:
            for ahead, number in enumerate(all_numbers):
                begin = gap + 1 - ahead
                if begin >= 0 and framed[begin:begin + len(signs)] == signs:
                    numbers.append(number)
        told.append(max(numbers))
    return told


def plain_breaks(patterns, word):
    return [value % 2 == 1 for value in plain_values(patterns, word)]


def drawn_pattern(draw, letters, most_signs, most_number):
    while True:
        count = draw.randint(1, most_signs)
        signs = draw.choice(("", "", ".")) + "".join(draw.choice(letters) for _at in range(count))
        signs = (signs + draw.choice(("", "", ".")))[:most_signs]
        numbers = [draw.choice((0, draw.randint(0, most_number))) for _at in range(len(signs) + 1)]
        if signs.startswith("."):
            numbers[0] = 0
        if signs.endswith("."):
            numbers[-1] = 0
        if is_pattern((signs, tuple(numbers))):
            return (signs, tuple(numbers))


def drawn_patterns(seed, count, letters, most_signs, most_number=9):
    # The seed alone tells what is drawn, so that each run tests the same.
    draw = random.Random(seed)
    return [drawn_pattern(draw, letters, most_signs, most_number) for _at in range(count)]


def drawn_word(seed, letters, length):
    draw = random.Random(seed)
    return "".join(draw.choice(letters) for _at in range(length))


def drawn_words(seed, count, letters, most):
    draw = random.Random(seed)
    words = {}
    while len(words) < count:
        word = "".join(draw.choice(letters) for _at in range(draw.randint(1, most)))
        words.setdefault(word, tuple(gap for gap in range(1, len(word)) if draw.randint(0, 2) == 0))
    return list(words.items())


def plain_gaps(patterns, word):
    return tuple(gap for gap, broken in enumerate(plain_breaks(patterns, word), start=1) if broken)


def plain_broken(breaker, word):
    # The breaker as a tuple (patterns, told, head, tail), told a dict.
    patterns, told, head, tail = breaker
    if word in told:
        return told[word]
    return tuple(gap for gap in plain_gaps(patterns, word) if gap >= head and len(word) - gap >= tail)


def possible_lines(words, begin, width):
    # Each line that goes into the width, by where the next one begins: a word's number, and its letters set so far.
    number, done = begin
    lines = {}
    line = ""
    while number < len(words):
        word, mark, gaps = words[number]
        lines.update({(number, gap): line + word[done:gap] + "-" for gap in gaps if gap > done})
        line = line + word[done:] + mark
        number, done = number + 1, 0
        lines[(number, done)] = line
        line = line + " "
    return {end: line for end, line in lines.items() if len(line) <= width}


def plain_lines(words, width):
    # The lines that go farthest; or the number of the word of which a line can hold nothing.
    lines = []
    begin = (0, 0)
    while begin != (len(words), 0):
        possible = possible_lines(words, begin, width)
        if not possible:
            return begin[0]
        begin = max(possible)
        lines.append(possible[begin])
    return lines


def fewest_lines(words, width):
    # Of all ways to set the words; None where there is none.
    begins = {(0, 0)}
    known = set(begins)
    count = 0
    while begins and (len(words), 0) not in begins:
        begins = {end for begin in begins for end in possible_lines(words, begin, width)} - known
        known |= begins
        count += 1
    return count if begins else None


def plain_learnt_at(words, patterns, number, length, cost):
    # Each run of signs with the number at each of its places, weighed at each gap of each word by itself.
    learnt = []
    broken = {word: plain_gaps(patterns, word) for word, _gaps in words}
    runs = {("." + word + ".")[at:at + length] for word, _gaps in words for at in range(len(word) + 3 - length)}
    for signs in runs:
        for ahead in range(length + 1):
            candidate = (signs, tuple(number if place == ahead else 0 for place in range(length + 1)))
            if is_pattern(candidate) and is_learnt(words, broken, candidate, number, cost):
                learnt.append(candidate)
    return sorted(learnt)


def is_learnt(words, broken, candidate, number, cost):
    good, bad = 0, 0
    for word, gaps in words:
        for gap, value in enumerate(plain_values([candidate], word), start=1):
            if value == 0:
                continue
            if number % 2 == 1:
                good += gap in gaps and gap not in broken[word]
                bad += gap not in gaps and gap not in broken[word]
            else:
                good += gap not in gaps and gap in broken[word]
                bad += gap in gaps and gap in broken[word]
    return good > 0 and (bad == 0 if cost is None else bad * cost <= good)


def plain_level(words, patterns, number, most, cost):
    learnt = []
    for length in range(1, most + 1):
        learnt = learnt + plain_learnt_at(words, patterns + learnt, number, length, cost)
    return learnt


def letters_of(patterns):
    # Those that stand in the patterns, and the first one that stands in none.
    standing = [letter for letter in SMALL_LETTERS if any(letter in signs for signs, _numbers in patterns)]
    return standing + [letter for letter in SMALL_LETTERS if letter not in standing][:1]


def check_told(test, one, other, told):
    """Holds what is told of two lists to what a word, or views, must show."""
    test.assertIs(type(told), tuple)
    test.assertEqual(len(told), 2)
    if told[0] == "word":
        test.assertIs(is_word(told[1]), True)
        test.assertNotEqual(plain_breaks(one, told[1]), plain_breaks(other, told[1]), (one, other, told))
        return
    test.assertEqual(told[0], "same")
    check_views(test, one, other, told[1])
    check_short_words(test, one, other)


def reached_views(one, other):
    # The views that come from the first one, by walking on from each that is new.
    reached = [first_view(one, other)]
    known = set(reached)
    for view in reached:
        for letter in letters_of(one + other):
            for later in next_views(one, other, view, letter)[0]:
                if later not in known:
                    known.add(later)
                    reached.append(later)
    return known


def check_views(test, one, other, views):
    test.assertIs(type(views), list)
    known = set(views)
    test.assertEqual(len(known), len(views))
    # None that does not come from the first one, and closed under the letters.
    test.assertEqual(known, reached_views(one, other))
    for view in views:
        pairs = last_pairs(one, other, view)
        for letter in letters_of(one + other):
            pairs += next_views(one, other, view, letter)[1]
        for ones, others in pairs:
            test.assertEqual(ones % 2, others % 2, (one, other, view))


def check_short_words(test, one, other):
    letters = letters_of(one + other)
    most = 5 if len(letters) < 4 else 3 if len(letters) < 8 else 2
    for length in range(1, most + 1):
        for word in itertools.product(letters, repeat=length):
            test.assertEqual(plain_breaks(one, "".join(word)), plain_breaks(other, "".join(word)), word)
