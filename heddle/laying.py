"""Pieces laid together to a cloth, and a cloth taken apart into its layers."""

from heddle.cloth import MOST_STRANDS, measured
from heddle.errors import NoLaying
from heddle.layers import layer_numbers, layers_of


def laid_together(pieces, ends, picks):
    """Tell the cloth of pieces that lie over one another, the upper one first."""
    check_owners(ends, len(pieces))
    check_owners(picks, len(pieces))
    for number, piece in enumerate(pieces):
        check_piece(piece, ends.count(number), picks.count(number))
    end_places = places_within(ends)
    pick_places = places_within(picks)
    cloth = []
    for owner, place in zip(picks, pick_places):
        own = pieces[owner][place]
        signs = [sign_at(owner, own, end_owner, k) for end_owner, k in zip(ends, end_places)]
        cloth.append("".join(signs))
    return cloth


def taken_apart(cloth):
    """Tell the triple (pieces, ends, picks) of a cloth's layers."""
    size = measured(cloth)
    numbers = layer_numbers(cloth)
    pieces = [piece_of(cloth, size[0], layer) for layer in layers_of(cloth)]
    return (pieces, numbers[:size[0]], numbers[size[0]:])


def check_owners(owners, pieces):
    """Refuse a list that does not tell for 1 to 40 strands which of so many pieces each belongs to."""
    if len(owners) < 1 or len(owners) > MOST_STRANDS:
        raise NoLaying("there are 1 to 40 ends and 1 to 40 picks")
    for owner in owners:
        if owner < 0 or owner >= pieces:
            raise NoLaying("a strand belongs to a piece that is not there")


def check_piece(piece, ends, picks):
    """Refuse a piece that has not the signs of so many ends and picks."""
    if len(piece) != picks:
        raise NoLaying("a piece has not as many texts as picks belong to it")
    for text in piece:
        if len(text) != ends:
            raise NoLaying("a text has not as many signs as ends belong to its piece")
        for sign in text:
            if sign not in "#.":
                raise NoLaying("a sign is neither # nor .")


def places_within(owners):
    """Tell for each strand how many ahead of it belong to the same piece."""
    return [owners[:k].count(owners[k]) for k in range(len(owners))]


def sign_at(pick_owner, own, end_owner, place):
    """Tell the sign at a crossing; own has the signs of the pick within its piece, place is the end's in its own."""
    if pick_owner == end_owner:
        return own[place]
    return "#" if end_owner < pick_owner else "."


def piece_of(cloth, ends, layer):
    """Tell the signs of the crossings within a layer."""
    own_ends = [strand for strand in layer if strand < ends]
    own_picks = [strand for strand in layer if strand >= ends]
    return [picked(cloth[strand - ends], own_ends) for strand in own_picks]


def picked(text, places):
    """Tell the signs of a text at these places."""
    return "".join([text[place] for place in places])
