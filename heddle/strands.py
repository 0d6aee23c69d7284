"""Strands: which of two lies over the other, and over how many each one lies."""

from heddle.cloth import check_strand, end_signs, measured
from heddle.errors import NoStrand


def strand_over(cloth, one, other):
    """Tell whether the first strand lies over the second one, which crosses it."""
    size = measured(cloth)
    check_strand(one, size[0] + size[1])
    check_strand(other, size[0] + size[1])
    if (one < size[0]) == (other < size[0]):
        raise NoStrand("two strands of the same kind do not cross")
    if one < size[0]:
        return cloth[other - size[0]][one] == "#"
    return cloth[one - size[0]][other] == "."


def scores_of(cloth):
    """Tell for each strand over how many strands it lies."""
    size = measured(cloth)
    of_ends = [end_signs(cloth, end).count("#") for end in range(size[0])]
    return of_ends + [text.count(".") for text in cloth]
