"""Drafts made for a picture."""

from heddle.colours import free_half, measured_picture
from heddle.drafts import least_draft
from heddle.errors import NoColour
from heddle.finish import finished_cloth
from heddle.paint import first_colouring


def made_draft(picture, warp, weft):
    """Tell ("draft", draft, warp, weft), or ("cut", warp, weft, strands), or ("none", strand, chains)."""
    if min(measured_picture(picture)) < 2:
        raise NoColour("the picture has a single end or a single pick")
    threads = first_colouring(picture, warp, weft)
    if threads[0] == "none":
        return threads
    finished = finished_cloth(free_half(picture, threads[1], threads[2]))
    if finished[0] == "cut":
        return ("cut", threads[1], threads[2], finished[1])
    return ("draft", least_draft(finished[1]), threads[1], threads[2])
