"""Texts: lists of things, each a word, perhaps with a mark behind, or an @ and the name of a tongue."""

from breakwords.errors import NoThing, NoTongue
from breakwords.tongues import is_name
from breakwords.words import is_word

MARKS = (",", ".", ";", ":", "!", "?")


def mark_of(thing):
    last = thing[-1:]
    return last if last in MARKS else ""


def word_of(thing):
    return thing[:len(thing) - len(mark_of(thing))]


def is_thing(thing):
    if thing.startswith("@"):
        return is_name(thing[1:])
    return is_word(word_of(thing))


def check_things(text):
    for place, thing in enumerate(text):
        if not is_thing(thing):
            raise NoThing(place)


def pieces(tongues, text):
    # All things are checked first, as a thing that can not stand goes ahead of a tongue that lacks.
    check_things(text)
    told = []
    breaker = None
    for place, thing in enumerate(text):
        if thing.startswith("@"):
            breaker = tongues.breaker_of(thing[1:])
        elif breaker is None:
            raise NoTongue("")
        else:
            word = word_of(thing)
            told.append((place, word, mark_of(thing), breaker.gaps(word)))
    return told
