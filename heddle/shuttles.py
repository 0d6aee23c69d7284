"""Shuttles: where their threads join the layers of a cloth by seams."""

from heddle.cloth import measured
from heddle.errors import NoShuttle
from heddle.layers import layer_numbers

SHUTTLES = 8


def seams_of(cloth, shuttles):
    """Tell the seams as triples (upper, lower, side), each once, in rising order."""
    size = measured(cloth)
    check_shuttles(shuttles, size[1])
    pick_layers = layer_numbers(cloth)[size[0]:]
    seams = []
    for shuttle in range(SHUTTLES):
        thrown = [pick_layers[pick] for pick in range(size[1]) if shuttles[pick] == shuttle]
        seams.extend(seams_along(thrown))
    return sorted(set(seams))


def tubes_of(cloth, shuttles):
    """Tell the pairs (upper, lower) of layers that are joined at both sides, in rising order."""
    seams = seams_of(cloth, shuttles)
    return [(upper, lower) for upper, lower, side in seams if side == "left" and (upper, lower, "right") in seams]


def sheets_of(cloth, shuttles):
    """Tell the layers that seams join, list by list."""
    seams = seams_of(cloth, shuttles)
    # Each layer bears the least number to which seams lead from it.
    bears = list(range(max(layer_numbers(cloth)) + 1))
    for upper, lower, side in seams:
        least = min(bears[upper], bears[lower])
        most = max(bears[upper], bears[lower])
        bears = [least if number == most else number for number in bears]
    return [bearers(bears, number) for number in sorted(set(bears))]


def check_shuttles(shuttles, picks):
    """Refuse a list that does not tell a shuttle for each of so many picks."""
    if len(shuttles) != picks:
        raise NoShuttle("the list does not tell a shuttle for each pick")
    for shuttle in shuttles:
        if shuttle < 0 or shuttle >= SHUTTLES:
            raise NoShuttle("a shuttle is not from 0 to 7")


def seams_along(thrown):
    """Tell the seams that one shuttle's thread makes, from the layers of its picks in the order of its throws."""
    seams = []
    for k in range(1, len(thrown)):
        # The first throw ends at the right, and the sides come by turns.
        side = "right" if k % 2 == 1 else "left"
        if thrown[k - 1] != thrown[k]:
            seams.append((min(thrown[k - 1], thrown[k]), max(thrown[k - 1], thrown[k]), side))
    return seams


def bearers(bears, number):
    """Tell the places at which a list has the number."""
    return [place for place in range(len(bears)) if bears[place] == number]
