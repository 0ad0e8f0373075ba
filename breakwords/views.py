"""Views: what two lists of patterns, looked at together, see of a word that is read up to some sign.

A view is a tuple (tail, behind, ones, others), for one gap of the word.
"""

from breakwords.woods import beginnings, greatest_numbers


def told_at_end(numbers_by_signs, text, back):
    # The greatest number told, by signs at the text's end, for the place so many signs back from there.
    told = 0
    for length in range(back, len(text) + 1):
        numbers = numbers_by_signs.get(text[len(text) - length:])
        if numbers is not None:
            told = max(told, numbers[length - back])
    return told


class Sight:
    def __init__(self, one, other):
        self.known = beginnings(one + other)
        self.one_numbers = greatest_numbers(one)
        self.other_numbers = greatest_numbers(other)

    def tail_of(self, text):
        for begin in range(len(text)):
            if text[begin:] in self.known:
                return text[begin:]
        return ""

    def pair_at_end(self, text, back, ones, others):
        told_ones = told_at_end(self.one_numbers, text, back)
        told_others = told_at_end(self.other_numbers, text, back)
        return (max(ones, told_ones), max(others, told_others))

    def first(self):
        return (self.tail_of("."), None, 0, 0)

    def by_letter(self, view, letter):
        # The old tail is enough: what ends at the letter and begins ahead of that tail is no beginning.
        tail = self.tail_of(view[0] + letter)
        behind = 0 if view[1] is None else view[1] + 1
        pair = self.pair_at_end(tail, behind, view[2], view[3])
        if len(tail) < behind:
            return ([], [pair])
        views = [(tail, behind, pair[0], pair[1])]
        if view[1] is None:
            views.insert(0, (tail, None, 0, 0))
        return (views, [])

    def by_end(self, view):
        # Behind the last letter lies no gap.
        if view[1] is None or view[1] == 0:
            return []
        return [self.pair_at_end(view[0] + ".", view[1] + 1, view[2], view[3])]


def first_view(one, other):
    return Sight(one, other).first()


def next_views(one, other, view, letter):
    return Sight(one, other).by_letter(view, letter)


def last_pairs(one, other, view):
    return Sight(one, other).by_end(view)
