"""Words, and broken words: tuples (word, gaps), written with a - at each of the gaps."""

from breakwords.errors import NoWord

# Written out, as Python's own tests for letters take letters of other scripts too.
LETTERS = "abcdefghijklmnopqrstuvwxyz"


def is_letter(sign):
    return sign in LETTERS


def is_word(text):
    return len(text) > 0 and all([is_letter(sign) for sign in text])


def read_broken(text):
    word = ""
    gaps = []
    letter_lacks = True
    for place, sign in enumerate(text):
        if is_letter(sign):
            word = word + sign
            letter_lacks = False
        elif sign == "-" and not letter_lacks:
            gaps.append(len(word))
            letter_lacks = True
        else:
            raise NoWord(place)
    if letter_lacks:
        raise NoWord(len(text))
    return (word, tuple(gaps))


def shown_broken(broken):
    word = broken[0]
    parts = []
    begin = 0
    for gap in broken[1]:
        parts.append(word[begin:gap])
        begin = gap
    parts.append(word[begin:])
    return "-".join(parts)
