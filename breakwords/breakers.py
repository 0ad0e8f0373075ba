"""Breakers: words broken by patterns, and by words told one by one."""

from breakwords.errors import Twice
from breakwords.values import breaks
from breakwords.words import shown_broken


def gaps_by_word(told):
    known = {}
    for word, gaps in told:
        if word in known:
            raise Twice(word)
        known[word] = gaps
    return known


class Breaker:
    def __init__(self, patterns, told, head, tail):
        self.told_gaps = gaps_by_word(told)
        self.patterns = list(patterns)
        self.head = head
        self.tail = tail

    def gaps(self, word):
        if word in self.told_gaps:
            return self.told_gaps[word]
        last = len(word) - self.tail
        return tuple([gap for gap in breaks(self.patterns, word) if self.head <= gap <= last])

    def shown(self, word):
        return shown_broken((word, self.gaps(word)))


def with_patterns(breaker, patterns):
    return Breaker(patterns, list(breaker.told_gaps.items()), breaker.head, breaker.tail)


def with_told(breaker, broken):
    known = dict(breaker.told_gaps)
    known[broken[0]] = broken[1]
    return Breaker(breaker.patterns, list(known.items()), breaker.head, breaker.tail)
