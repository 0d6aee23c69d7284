"""The web of strands: from which of them ways lead to which, by steps from a strand to one that lies below it."""

from heddle.cloth import check_strand
from heddle.errors import NoStrand


def check_set(strands, count):
    """Refuse a list that is no rising list of one or more of so many strands."""
    if not strands:
        raise NoStrand("the set has no strand")
    for k in range(len(strands)):
        check_strand(strands[k], count)
        if k > 0 and strands[k] <= strands[k - 1]:
            raise NoStrand("the strands of the set do not rise")


def lower_strands(texts):
    """Tell for each strand those over which it lies, and those over which it may yet lie where nothing is told."""
    ends = len(texts[0])
    lower = []
    for end in range(ends):
        lower.append([ends + pick for pick in range(len(texts)) if texts[pick][end] != "."])
    for text in texts:
        lower.append([end for end in range(ends) if text[end] != "#"])
    return lower


def lower_within(lower, strands):
    """Tell the same of the strands of a set alone, with nothing for the others."""
    narrowed = [[] for strand in lower]
    for strand in strands:
        narrowed[strand] = [other for other in lower[strand] if other in strands]
    return narrowed


def ways_from(lower, start):
    """Tell for each strand to which a way leads from start the one ahead of it on a shortest way, None for start."""
    ahead = {start: None}
    found = [start]
    place = 0
    while place < len(found):
        one = found[place]
        for other in lower[one]:
            if other not in ahead:
                ahead[other] = one
                found.append(other)
        place += 1
    return ahead


def way_to(ahead, goal):
    """Tell the way that leads to the goal."""
    way = [goal]
    while ahead[way[-1]] is not None:
        way.append(ahead[way[-1]])
    return list(reversed(way))


def upper_part(lower, strands):
    """Tell a part of the set to which no way leads from the rest of it, or None where ways lead from each to all.

    lower has ways within the set alone.
    """
    for start in strands:
        ahead = ways_from(lower, start)
        if len(ahead) < len(strands):
            return [strand for strand in strands if strand not in ahead]
    return None
