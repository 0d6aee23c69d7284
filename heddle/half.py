"""Half cloths, in which not all signs are told, and their cuts."""

from heddle.cloth import measured_texts
from heddle.web import check_set, lower_strands


def is_cut(half, strands):
    """Tell whether a set of strands is a cut of a half cloth."""
    size = measured_half(half)
    check_set(strands, size[0] + size[1])
    lower = lower_strands(half)
    others = [strand for strand in range(len(lower)) if strand not in strands]
    for other in others:
        # One of the others that lies over a strand of the set, or may yet, lies in the way of the cut.
        if any([strand in strands for strand in lower[other]]):
            return False
    return len(others) > 0


def measured_half(half):
    """Tell the pair (ends, picks) of a half cloth."""
    return measured_texts(half, 2, "#.?")
