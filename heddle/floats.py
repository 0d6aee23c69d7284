"""Floats: how long a strand of the cloth without end goes without a turn."""

from heddle.cloth import check_strand, end_signs, measured


def longest_float(cloth, strand):
    """Tell the longest float of a strand as the pair (start, length), or None where it has no float."""
    size = measured(cloth)
    check_strand(strand, size[0] + size[1])
    signs = end_signs(cloth, strand) if strand < size[0] else cloth[strand - size[0]]
    # Ahead of the first sign comes the last one, since the strand goes on without end.
    starts = [k for k in range(len(signs)) if signs[k] != signs[k - 1]]
    if not starts:
        return None
    longest = (0, 0)
    for start, behind in zip(starts, starts[1:] + [starts[0] + len(signs)]):
        if behind - start > longest[1]:
            longest = (start, behind - start)
    return longest
