"""A press: sets the words of a text in lines, and joins such lines again."""

from breakwords.errors import TooNarrow
from breakwords.texts import pieces


def farthest_end(gaps, begin, room):
    # The - takes a sign of the room, too.
    return max([gap for gap in gaps if begin < gap < begin + room], default=begin)


def pressed(tongues, text, width):
    lines = []
    # What stands in the line so far, with the blank behind it.
    ahead = ""
    for place, word, mark, gaps in pieces(tongues, text):
        begin = 0
        while len(ahead + word[begin:] + mark) > width:
            end = farthest_end(gaps, begin, width - len(ahead))
            if end > begin:
                lines.append(ahead + word[begin:end] + "-")
            elif ahead != "":
                lines.append(ahead[:-1])
            else:
                raise TooNarrow(place)
            ahead = ""
            begin = end
        ahead = ahead + word[begin:] + mark + " "
    if ahead != "":
        lines.append(ahead[:-1])
    return lines


def joined(lines):
    # No word has a - of its own, so each one stands at a line's end, where the next line goes on with the word.
    return " ".join(lines).replace("- ", "").split()
