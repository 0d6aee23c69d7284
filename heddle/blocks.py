"""Profiles, of which each place stands for a block, and the cloths and drafts that come of them."""

from heddle.cloth import MOST_STRANDS, end_signs, measured
from heddle.drafts import Draft, least_draft, shafts_over, unlike
from heddle.errors import NoBlock, TooLarge


def filled_blocks(profile, one, other):
    """Tell the cloth of a profile with the one unit for each "#" and the other for each "."."""
    size = measured(profile)
    unit = unit_size(one, other)
    if size[0] * unit[0] > MOST_STRANDS or size[1] * unit[1] > MOST_STRANDS:
        raise TooLarge("the cloth would have more than 40 ends or picks")
    cloth = []
    for text in profile:
        for of_one, of_other in zip(one, other):
            cloth.append("".join([of_one if sign == "#" else of_other for sign in text]))
    return cloth


def block_draft(profile, one, other):
    """Tell a draft that weaves the filled cloth, with shafts and treadles of their own for each kind of block."""
    cloth = filled_blocks(profile, one, other)
    least = least_draft(profile)
    ends = [(end_signs(one, end), end_signs(other, end)) for end in range(len(one[0]))]
    threading = blockwise(least.threading, ends)
    treading = blockwise(least.treading, list(zip(one, other)))
    # Each treadle is trodden, so a pick of the cloth tells what it has to lift.
    ties = [shafts_over(threading, cloth[treading.index(treadle)]) for treadle in range(max(treading) + 1)]
    return Draft(threading, ties, treading)


def profile_of(cloth, one, other):
    """Tell the profile that the units fill to the cloth, or None."""
    size = measured(cloth)
    unit = unit_size(one, other)
    profile = []
    for first in range(0, size[1], unit[1]):
        picks = cloth[first:first + unit[1]]
        signs = [block_sign(picks, left, one, other) for left in range(0, size[0], unit[0])]
        if None in signs:
            return None
        profile.append("".join(signs))
    return profile


def unit_size(one, other):
    """Tell the pair (ends, picks) of two units, which have to be of one size."""
    size = measured(one)
    if measured(other) != size:
        raise NoBlock("the units are not of one size")
    return size


def blockwise(blocks, strands):
    """Tell for each block in turn the numbers of its strands; the unlike strands of a unit are counted as they come."""
    found = unlike(strands)
    numbers = []
    for block in blocks:
        numbers.extend([block * len(found) + found.index(strand) for strand in strands])
    return numbers


def block_sign(picks, left, one, other):
    """Tell the sign of the block that begins at an end of these picks, or None where it is neither unit."""
    # A part that the cloth's edge cuts short is neither unit.
    block = [text[left:left + len(one[0])] for text in picks]
    if block == one:
        return "#"
    return "." if block == other else None
