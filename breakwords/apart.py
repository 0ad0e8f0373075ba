"""Whether two lists of patterns are apart: a word that breaks otherwise, or all views, which show that none does."""

from breakwords.views import Sight
from breakwords.words import LETTERS


def letters_to_read(patterns):
    signs = "".join([pattern[0] for pattern in patterns])
    standing = [letter for letter in LETTERS if letter in signs]
    # All letters that stand in no pattern are alike: the first one goes for them.
    strange = [letter for letter in LETTERS if letter not in signs]
    return standing + strange[:1]


def steps_from(sight, letters, view, word):
    steps = [(word, ([], sight.by_end(view)))]
    for letter in letters:
        steps.append((word + letter, sight.by_letter(view, letter)))
    return steps


def breaks_otherwise(pairs):
    return any([pair[0] % 2 != pair[1] % 2 for pair in pairs])


def apart(one, other):
    sight = Sight(one, other)
    letters = letters_to_read(one + other)
    # To each view the letters by which it came, that they may be told as a word.
    words = {sight.first(): ""}
    waiting = list(words)
    while len(waiting) > 0:
        # The one that came first goes first, which keeps the words short.
        view = waiting.pop(0)
        for word, step in steps_from(sight, letters, view, words[view]):
            if breaks_otherwise(step[1]):
                return ("word", word)
            for later in step[0]:
                if later not in words:
                    words[later] = word
                    waiting.append(later)
    return ("same", list(words))
