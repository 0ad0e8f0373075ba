"""Listed words, a list of broken words, held to what patterns tell of them."""

from breakwords.values import breaks


def seen_gaps(words, patterns):
    # To each gap of the listed words: (word, gap, whether it is told, whether the word breaks there).
    seen = []
    for word, told in words:
        broken = breaks(patterns, word)
        seen.extend([(word, gap, gap in told, gap in broken) for gap in range(1, len(word))])
    return seen


def missed(words, patterns):
    return [(word, gap) for word, gap, told, broken in seen_gaps(words, patterns) if told and not broken]


def wrong(words, patterns):
    return [(word, gap) for word, gap, told, broken in seen_gaps(words, patterns) if broken and not told]
