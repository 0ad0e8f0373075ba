"""Woods: lists of knots (ways, numbers), one knot for each beginning of the signs of some pattern."""

from breakwords.values import values_by_fits


def beginnings(patterns):
    # A dict, as it is asked far more often than it is made.
    met = {"": True}
    for pattern in patterns:
        signs = pattern[0]
        for end in range(1, len(signs) + 1):
            met[signs[:end]] = True
    return met


def greatest_numbers(patterns):
    greatest = {}
    for pattern in patterns:
        signs = pattern[0]
        earlier = greatest.get(signs, pattern[1])
        greatest[signs] = tuple([max(both) for both in zip(earlier, pattern[1])])
    return greatest


def wood_of(patterns):
    greatest = greatest_numbers(patterns)
    # Sorted, a name stands behind its own beginnings, and the ways of a knot come by rising signs.
    names = sorted(beginnings(patterns))
    ways = {}
    for number, name in enumerate(names):
        ways[name] = []
        if name != "":
            ways[name[:-1]].append((name[-1], number))
    return [(tuple(ways[name]), greatest.get(name)) for name in names]


def number_by_way(knot, sign):
    for way in knot[0]:
        if way[0] == sign:
            return way[1]
    return None


def fits_from(wood, framed, begin):
    fits = []
    knot = wood[0]
    for sign in framed[begin:]:
        number = number_by_way(knot, sign)
        if number is None:
            return fits
        knot = wood[number]
        if knot[1] is not None:
            fits.append((begin, knot[1]))
    return fits


def wood_values(wood, word):
    framed = "." + word + "."
    fits = []
    for begin in range(len(framed)):
        fits.extend(fits_from(wood, framed, begin))
    return values_by_fits(fits, word)


def patterns_in(wood):
    found = []
    waiting = [("", 0)]
    while len(waiting) > 0:
        reached = waiting.pop()
        name = reached[0]
        knot = wood[reached[1]]
        if knot[1] is not None:
            found.append((name, knot[1]))
        waiting.extend([(name + way[0], way[1]) for way in knot[0]])
    return sorted(found)
