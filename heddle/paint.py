"""Colours found for the threads of a picture."""

from heddle.colours import COLOURS, check_threads, measured_picture
from heddle.web import way_to


def first_colouring(picture, warp, weft):
    """Tell ("threads", warp, weft) with the first colouring that fits, or ("none", strand, chains)."""
    size = measured_picture(picture)
    check_threads(warp, size[0], COLOURS + "?")
    check_threads(weft, size[1], COLOURS + "?")
    told = warp + weft
    seen_along = crossings_of(picture)
    borne = {}
    for strand in range(len(told)):
        if strand not in borne:
            chains = settle_strand(seen_along, told, borne, strand)
            if chains is not None:
                return ("none", strand, chains)
    threads = "".join([borne[strand] for strand in range(len(told))])
    return ("threads", threads[:size[0]], threads[size[0]:])


def crossings_of(picture):
    """Tell for each strand the list of its crossings as pairs of the other strand and the colour that is seen."""
    ends = len(picture[0])
    seen_along = []
    for end in range(ends):
        seen_along.append([(ends + pick, picture[pick][end]) for pick in range(len(picture))])
    for text in picture:
        seen_along.append(list(enumerate(text)))
    return seen_along


def settle_strand(seen_along, told, borne, strand):
    """Give a strand the first colour that does well, and others those that they must have then.

    Tell None, or the list of a pair (colour, chain) for each colour that the strand may have, where none does well.
    A colour that does well never has to be taken back: what the strands in borne bear fits all their crossings, so a
    colouring of the others that fits theirs goes with it.
    """
    chains = []
    colours = COLOURS if told[strand] == "?" else told[strand]
    for colour in colours:
        given = {strand: colour}
        chain = chain_from(seen_along, told, borne, given, strand)
        if chain is None:
            borne.update(given)
            return None
        chains.append((colour, chain))
    return chains


def chain_from(seen_along, told, borne, given, strand):
    """Follow what others must bear since the strand bears its colour, and put that into given.

    Tell None, or a chain to a strand that can't bear what it must.
    """
    ahead = {strand: None}
    found = [strand]
    place = 0
    while place < len(found):
        one = found[place]
        for other, seen in seen_along[one]:
            if seen == given[one] or borne.get(other) == seen or given.get(other) == seen:
                continue
            if other in given:
                # Turned round, the way to the other tells what each on it must bear since the other bears this one.
                return way_to(ahead, one) + list(reversed(way_to(ahead, other)))
            if told[other] != "?" and told[other] != seen:
                return way_to(ahead, one) + [other]
            given[other] = seen
            ahead[other] = one
            found.append(other)
        place += 1
    return None
