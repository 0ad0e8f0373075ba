"""The refusals: each a class of its own, straight under WordError."""


class WordError(ValueError):
    pass


class NoWord(WordError):
    def __init__(self, place):
        WordError.__init__(self, f"no broken word is written so, seen at {place}")
        self.place = place


class NoPattern(WordError):
    def __init__(self, place):
        WordError.__init__(self, f"no pattern is written so, seen at {place}")
        self.place = place


class Twice(WordError):
    def __init__(self, word):
        WordError.__init__(self, f"the word {word} is told twice")
        self.word = word


class NoTongue(WordError):
    def __init__(self, name):
        WordError.__init__(self, f"no tongue has the name {name!r}")
        self.name = name


class NoThing(WordError):
    def __init__(self, place):
        WordError.__init__(self, f"thing {place} of the text can not stand in it")
        self.place = place


class TooNarrow(WordError):
    def __init__(self, place):
        WordError.__init__(self, f"no part of thing {place} of the text goes into a line")
        self.place = place


class NoRow(WordError):
    pass
