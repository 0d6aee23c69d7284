"""Half cloths finished to cloths that hang together."""

from heddle.half import measured_half
from heddle.web import lower_strands, upper_part, ways_from


def finished_cloth(half):
    """Tell ("cut", strands), or ("cloth", rows, forced) with the first finishing that hangs together."""
    size = measured_half(half)
    lower = lower_strands(half)
    cut = upper_part(lower, list(range(size[0] + size[1])))
    if cut is not None:
        return ("cut", cut)
    rows = []
    forced = []
    for pick in range(size[1]):
        signs = []
        for end in range(size[0]):
            sign = half[pick][end]
            if sign == "?":
                strands = settle(lower, end, size[0] + pick)
                sign = "#" if strands is None else "."
                if strands is not None:
                    forced.append((pick, end, strands))
            signs.append(sign)
        rows.append("".join(signs))
    return ("cloth", rows, forced)


def settle(lower, end, pick):
    """Lay an end over a pick where nothing is told, or the pick over the end where a cut would come of that.

    lower, which is changed, has no cut ahead of this. Tell None, or the cut that would come.
    """
    lower[pick].remove(end)
    ahead = ways_from(lower, pick)
    # Only the step from the pick to the end is gone, so all hangs together still where another way leads there.
    if end in ahead:
        return None
    # With at least two ends and two picks, one of both signs always leaves it without a cut.
    lower[pick].append(end)
    lower[end].remove(pick)
    return [strand for strand in range(len(lower)) if strand not in ahead]
