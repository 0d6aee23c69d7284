"""A cloth that is repeated without end to all four sides."""

from heddle.cloth import MOST_STRANDS, measured
from heddle.errors import TooLarge


def far_sign(cloth, x, y):
    """Tell the sign at a place of the cloth without end."""
    size = measured(cloth)
    return cloth[y % size[1]][x % size[0]]


def overs_within(cloth, left, first, wide, high):
    """Tell how many places of a field have an end over a pick."""
    size = measured(cloth)
    columns = [times_met(left, wide, size[0], end) for end in range(size[0])]
    total = 0
    for pick in range(size[1]):
        in_pick = sum([columns[end] for end in range(size[0]) if cloth[pick][end] == "#"])
        total += in_pick * times_met(first, high, size[1], pick)
    return total


def tiled(cloth, across, along):
    """Tell the cloth repeated side by side and one above the other."""
    size = measured(cloth)
    if size[0] * across > MOST_STRANDS or size[1] * along > MOST_STRANDS:
        raise TooLarge("a side would have more than 40 strands")
    return [text * across for text in cloth] * along


def times_met(start, length, count, strand):
    """Tell how often a stretch of so many places meets a strand that comes again after each count of places."""
    # Each whole round meets the strand once, and what is left meets it where it reaches that far from start on.
    reached = (strand - start) % count < length % count
    return length // count + (1 if reached else 0)
