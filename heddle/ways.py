"""Ways along the strands of a cloth, and sets of strands that hang together or come apart."""

from heddle.cloth import check_strand, measured
from heddle.web import check_set, lower_strands, lower_within, upper_part, way_to, ways_from


def way_between(cloth, one, other):
    """Tell a shortest way from one strand to the other, or None."""
    size = measured(cloth)
    check_strand(one, size[0] + size[1])
    check_strand(other, size[0] + size[1])
    ahead = ways_from(lower_strands(cloth), one)
    if other not in ahead:
        return None
    return way_to(ahead, other)


def round_way(cloth, strands):
    """Tell a way round a set of strands that hangs together, or None where it does not."""
    lower = web_of_set(cloth, strands)
    if upper_part(lower, strands) is not None:
        return None
    way = [strands[0]]
    # Each shortest way has fewer steps than the set has strands, and there are not more of them than strands.
    for strand in strands[1:]:
        if strand not in way:
            way.extend(way_to(ways_from(lower, way[-1]), strand)[1:])
    # The way back ends with the first strand, which is told already.
    way.extend(way_to(ways_from(lower, way[-1]), strands[0])[1:-1])
    return way


def lifted_off(cloth, strands):
    """Tell a part of a set that lies over the rest of it, or None where the set hangs together."""
    return upper_part(web_of_set(cloth, strands), strands)


def web_of_set(cloth, strands):
    """Tell for each strand of the set over which others of the set it lies."""
    size = measured(cloth)
    check_set(strands, size[0] + size[1])
    return lower_within(lower_strands(cloth), strands)
