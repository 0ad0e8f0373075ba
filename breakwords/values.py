"""The values that patterns tell for the gaps of a word, and where it breaks by them."""


def fitting_places(signs, framed):
    return [place for place in range(len(framed)) if framed.startswith(signs, place)]


def values_by_fits(fits, word):
    # A number for each place of the framed word, those beyond its gaps too, so that a pattern
    # can tell all its numbers, wherever it fits.
    told = [0] * (len(word) + 3)
    for begin, numbers in fits:
        for place, number in enumerate(numbers, start=begin):
            told[place] = max(told[place], number)
    # The gaps lie within the word: two places at either end are no gaps.
    return told[2:-2]


def values(patterns, word):
    framed = "." + word + "."
    fits = []
    for pattern in patterns:
        fits.extend([(begin, pattern[1]) for begin in fitting_places(pattern[0], framed)])
    return values_by_fits(fits, word)


def breaks(patterns, word):
    return tuple([gap for gap, value in enumerate(values(patterns, word), start=1) if value % 2 == 1])
