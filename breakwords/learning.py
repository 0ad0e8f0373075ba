"""What listed words teach by levels, and the full patterns, which break each listed word just as listed."""

from breakwords.levels import level
from breakwords.values import fitting_places


def taught(words, levels):
    learnt = []
    for number, bounds in enumerate(levels, start=1):
        learnt.extend(level(words, learnt, number, bounds[0], bounds[1]))
    return learnt


def taught_to_the_end(words, levels):
    learnt = taught(words, levels)
    # A pattern of a whole word with both its full stops can set right any gap of it, and no other word's.
    most = 2 + max([len(broken[0]) for broken in words], default=0)
    even = len(levels) // 2 * 2 + 2
    for number in (even, even + 1):
        learnt.extend(level(words, learnt, number, most, None))
    return learnt


def number_of(pattern):
    # A learnt pattern has one number above 0.
    return max(pattern[1])


def gaps_come_to(words, pattern):
    ahead = pattern[1].index(number_of(pattern))
    come = []
    for broken in words:
        word = broken[0]
        begins = fitting_places(pattern[0], "." + word + ".")
        # The full stop ahead of the word is no letter ahead of the gap.
        gaps = [begin + ahead - 1 for begin in begins]
        come.extend([(word, gap) for gap in gaps if 0 < gap < len(word)])
    return come


class Stand:
    # Keeps what the patterns left tell for each gap, so that one is tried without a look at all others.
    def __init__(self, words, patterns):
        self.told_gaps = {}
        for word, gaps in words:
            for gap in gaps:
                self.told_gaps[(word, gap)] = True
        self.spots = {}
        self.numbers = {}
        for pattern in patterns:
            come = gaps_come_to(words, pattern)
            self.spots[pattern] = come
            for spot in come:
                self.numbers.setdefault(spot, []).append(number_of(pattern))

    def word_wanting(self, pattern):
        for spot in self.spots[pattern]:
            others = list(self.numbers[spot])
            others.remove(number_of(pattern))
            breaks_without = max(others, default=0) % 2 == 1
            if breaks_without != (spot in self.told_gaps):
                return spot[0]
        return None

    def leave_out(self, pattern):
        for spot in self.spots[pattern]:
            self.numbers[spot].remove(number_of(pattern))


def left_of_round(stand, patterns):
    left = []
    for pattern in reversed(patterns):
        if stand.word_wanting(pattern) is None:
            stand.leave_out(pattern)
        else:
            left.insert(0, pattern)
    return left


def full(words, levels):
    patterns = taught_to_the_end(words, levels)
    stand = Stand(words, patterns)
    left = left_of_round(stand, patterns)
    while len(left) < len(patterns):
        patterns = left
        left = left_of_round(stand, patterns)
    return [(pattern, stand.word_wanting(pattern)) for pattern in left]
