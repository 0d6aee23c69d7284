"""Cloths: whether a list of texts is one, its back and quarter, and its strands set side by side."""

from heddle.errors import NoCloth, NoStrand

MOST_STRANDS = 40


def measured(cloth):
    """Tell the pair (ends, picks) of a cloth."""
    return measured_texts(cloth, 1, "#.")


def back_of(cloth):
    """Tell the cloth as it is seen from behind."""
    measured(cloth)
    return [turned_signs("".join(reversed(text))) for text in cloth]


def quarter_of(cloth):
    """Tell the cloth with its picks as ends and its ends as picks."""
    size = measured(cloth)
    return [turned_signs(end_signs(cloth, end)) for end in range(size[0])]


def ends_apart(cloth, one, other):
    """Tell the first pick at which two ends are different, or None."""
    size = measured(cloth)
    check_strand(one, size[0])
    check_strand(other, size[0])
    return first_unlike(end_signs(cloth, one), end_signs(cloth, other))


def picks_apart(cloth, one, other):
    """Tell the first end at which two picks are different, or None."""
    size = measured(cloth)
    check_strand(one, size[1])
    check_strand(other, size[1])
    return first_unlike(cloth[one], cloth[other])


def measured_texts(texts, least, signs):
    """Tell the pair (ends, picks) of texts that are a cloth with at least so many of each, and of these signs."""
    if len(texts) < least or len(texts) > MOST_STRANDS:
        raise NoCloth("too few or too many picks")
    ends = len(texts[0])
    if ends < least or ends > MOST_STRANDS:
        raise NoCloth("too few or too many ends")
    for text in texts:
        check_pick(text, ends, signs)
    return (ends, len(texts))


def check_pick(text, ends, signs):
    """Refuse a text that is no pick of so many ends, and of these signs."""
    if len(text) != ends:
        raise NoCloth("the picks are not all of one length")
    for sign in text:
        if sign not in signs:
            raise NoCloth("a sign is none of a cloth's")


def check_strand(number, count):
    """Refuse a number that none of so many strands of one kind has."""
    if number < 0 or number >= count:
        raise NoStrand("the cloth has no such strand")


def end_signs(cloth, end):
    """Tell the signs of an end, pick by pick, as a text."""
    return "".join([text[end] for text in cloth])


def turned_signs(signs):
    """Tell the signs of crossings at each of which the lower strand comes to lie over."""
    return "".join(["." if sign == "#" else "#" for sign in signs])


def first_unlike(one, other):
    """Tell the first place at which two texts of one length differ, or None."""
    for k in range(len(one)):
        if one[k] != other[k]:
            return k
    return None
