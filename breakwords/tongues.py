"""Tongues: names, each with the breaker of its words."""

from breakwords.breakers import with_patterns
from breakwords.errors import NoTongue
from breakwords.words import is_word

MOST_LETTERS = 8


def is_name(text):
    return is_word(text) and len(text) <= MOST_LETTERS


class Tongues:
    def __init__(self):
        self.breakers = {}

    def put(self, name, breaker):
        # A copy, so that nothing done to the one handed in is seen here.
        self.breakers[name] = with_patterns(breaker, breaker.patterns)

    def breaker_of(self, name):
        if name not in self.breakers:
            raise NoTongue(name)
        return self.breakers[name]

    def gaps(self, name, word):
        return self.breaker_of(name).gaps(word)

    def shown(self, name, word):
        return self.breaker_of(name).shown(word)

    def names(self):
        return sorted(self.breakers)
