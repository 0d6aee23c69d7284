"""Pictures, the colours of threads, and what a cloth of these shows."""

from heddle.cloth import MOST_STRANDS, measured
from heddle.errors import NoColour

COLOURS = "abcdef"


def picture_of(cloth, warp, weft):
    """Tell the picture that a cloth shows with threads of these colours."""
    size = measured(cloth)
    check_threads(warp, size[0], COLOURS)
    check_threads(weft, size[1], COLOURS)
    return [shown_pick(text, warp, colour) for text, colour in zip(cloth, weft)]


def free_half(picture, warp, weft):
    """Tell the half cloth that is finished by just the cloths that show the picture with these colours."""
    size = measured_picture(picture)
    check_threads(warp, size[0], COLOURS)
    check_threads(weft, size[1], COLOURS)
    return [free_pick(text, warp, colour) for text, colour in zip(picture, weft)]


def measured_picture(picture):
    """Tell the pair (ends, picks) of a picture."""
    if len(picture) < 1 or len(picture) > MOST_STRANDS:
        raise NoColour("a picture has 1 to 40 texts")
    ends = len(picture[0])
    if ends < 1 or ends > MOST_STRANDS:
        raise NoColour("a picture has texts of 1 to 40 signs")
    for text in picture:
        check_threads(text, ends, COLOURS)
    return (ends, len(picture))


def check_threads(text, count, signs):
    """Refuse a text that has not so many signs, or others than these."""
    if len(text) != count:
        raise NoColour("a text has too few or too many signs")
    for sign in text:
        if sign not in signs:
            raise NoColour("a sign is no colour")


def shown_pick(text, warp, colour):
    """Tell what is seen along a pick of this colour."""
    return "".join([end_colour if sign == "#" else colour for sign, end_colour in zip(text, warp)])


def free_pick(text, warp, colour):
    """Tell the signs of a pick of this colour along which the text is to be seen."""
    return "".join([free_sign(seen, end_colour, colour) for seen, end_colour in zip(text, warp)])


def free_sign(seen, end_colour, pick_colour):
    """Tell the sign of a crossing at which a colour is to be seen, "?" where both strands have it."""
    if end_colour == seen:
        return "?" if pick_colour == seen else "#"
    if pick_colour != seen:
        raise NoColour("neither strand of a crossing has the colour that is seen")
    return "."
