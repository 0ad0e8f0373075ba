"""Levels: patterns of one number, learnt from listed words length by length."""

from breakwords.lists import seen_gaps


def one_number(number, place, length):
    return tuple([0] * place + [number] + [0] * (length - place))


def candidates_at(word, gap, number, length):
    framed = "." + word + "."
    # The full stop ahead of the word is one sign more ahead of the gap.
    ahead = gap + 1
    first = max(0, ahead - length)
    last = min(ahead, len(framed) - length)
    return [
        (framed[begin:begin + length], one_number(number, ahead - begin, length))
        for begin in range(first, last + 1)
    ]


def goods_and_bads(words, patterns, number, length):
    odd = number % 2 == 1
    goods = {}
    bads = {}
    for word, gap, told, broken in seen_gaps(words, patterns):
        # An odd number changes nothing where the word breaks already, an even one nothing where it does not.
        if broken != odd:
            counts = goods if told == odd else bads
            for candidate in candidates_at(word, gap, number, length):
                counts[candidate] = counts.get(candidate, 0) + 1
    return (goods, bads)


def is_worth(good, bad, cost):
    if cost is None:
        return bad == 0
    return bad * cost <= good


def learnt_at(words, patterns, number, length, cost):
    counted = goods_and_bads(words, patterns, number, length)
    goods = counted[0]
    bads = counted[1]
    # Those whose good is 0 do not stand among the goods.
    return sorted([candidate for candidate in goods if is_worth(goods[candidate], bads.get(candidate, 0), cost)])


def level(words, patterns, number, most, cost):
    learnt = []
    for length in range(1, most + 1):
        learnt.extend(learnt_at(words, patterns + learnt, number, length, cost))
    return learnt
