"""Pieces: patterns worked out, one class for each way in which a pattern is made."""

from heddle.blocks import filled_blocks
from heddle.cloth import MOST_STRANDS, back_of, quarter_of
from heddle.endless import tiled
from heddle.errors import NoPattern, TooLarge
from heddle.laying import laid_together


class Piece:
    """The cloth for which a pattern stands, and the pattern as it is written without blanks."""

    def __init__(self, texts, writing):
        self.texts = list(texts)
        self.writing = writing

    def wide(self):
        """Tell how many ends the piece has."""
        return len(self.texts[0])

    def high(self):
        """Tell how many picks the piece has."""
        return len(self.texts)

    def sign(self, x, y):
        """Tell the sign of end x at pick y."""
        return self.texts[y][x]

    def cloth(self):
        """Tell the whole cloth."""
        return list(self.texts)

    def told(self):
        """Tell the pattern as a text."""
        return self.writing


class Named(Piece):
    """A cloth that is known by its name."""

    def __init__(self, name, known_cloth):
        Piece.__init__(self, known_cloth, name)


class Rows(Piece):
    """A cloth told sign by sign."""

    def __init__(self, runs):
        if any([len(run) != len(runs[0]) for run in runs]):
            raise NoPattern("runs are of unlike lengths")
        check_size(len(runs[0]), len(runs))
        Piece.__init__(self, runs, written("rows", runs))


class Twill(Piece):
    """A twill: each pick has the signs of the one before it, one to the right."""

    def __init__(self, over, under):
        if over < 1 or under < 1:
            raise NoPattern("a twill has numbers of 1 or more")
        size = over + under
        check_size(size, size)
        first = "#" * over + "." * under
        texts = [first[size - y:] + first[:size - y] for y in range(size)]
        Piece.__init__(self, texts, written("twill", [str(over), str(under)]))


class Satin(Piece):
    """A satin: each pick lies under one end alone, so many steps to the right of the one before."""

    def __init__(self, size, step):
        if step < 1 or step >= size or not prime_to(size, step):
            raise NoPattern("the numbers of a satin do not fit")
        check_size(size, size)
        overs = [y * step % size for y in range(size)]
        texts = ["." * over + "#" + "." * (size - 1 - over) for over in overs]
        Piece.__init__(self, texts, written("satin", [str(size), str(step)]))


class Beside(Piece):
    """The ends of one piece and then those of another."""

    def __init__(self, one, other):
        if one.high() != other.high():
            raise NoPattern("pieces beside one another have unlike counts of picks")
        check_size(one.wide() + other.wide(), one.high())
        texts = [left + right for left, right in zip(one.cloth(), other.cloth())]
        Piece.__init__(self, texts, written("beside", [one.told(), other.told()]))


class Above(Piece):
    """The picks of one piece and then those of another."""

    def __init__(self, one, other):
        if one.wide() != other.wide():
            raise NoPattern("pieces above one another have unlike counts of ends")
        check_size(one.wide(), one.high() + other.high())
        Piece.__init__(self, one.cloth() + other.cloth(), written("above", [one.told(), other.told()]))


class Mirror(Piece):
    """A piece with its ends in the turned order."""

    def __init__(self, inner):
        texts = ["".join(reversed(text)) for text in inner.cloth()]
        Piece.__init__(self, texts, written("mirror", [inner.told()]))


class Upend(Piece):
    """A piece with its picks in the turned order."""

    def __init__(self, inner):
        Piece.__init__(self, list(reversed(inner.cloth())), written("upend", [inner.told()]))


class Back(Piece):
    """A piece seen from behind."""

    def __init__(self, inner):
        Piece.__init__(self, back_of(inner.cloth()), written("back", [inner.told()]))


class Quarter(Piece):
    """A piece with its picks as ends and its ends as picks."""

    def __init__(self, inner):
        Piece.__init__(self, quarter_of(inner.cloth()), written("quarter", [inner.told()]))


class Tile(Piece):
    """A piece repeated side by side and one above the other."""

    def __init__(self, inner, across, along):
        if across < 1 or along < 1:
            raise NoPattern("a tile has numbers of 1 or more")
        texts = tiled(inner.cloth(), across, along)
        Piece.__init__(self, texts, written("tile", [inner.told(), str(across), str(along)]))


class Blocks(Piece):
    """A profile filled with two units."""

    def __init__(self, profile, one, other):
        check_one_size(one, other)
        texts = filled_blocks(profile.cloth(), one.cloth(), other.cloth())
        Piece.__init__(self, texts, written("blocks", [profile.told(), one.told(), other.told()]))


class Lay(Piece):
    """One piece laid over another, with ends and picks of both by turns."""

    def __init__(self, upper, lower):
        check_one_size(upper, lower)
        check_size(2 * upper.wide(), 2 * upper.high())
        texts = laid_together([upper.cloth(), lower.cloth()], [0, 1] * upper.wide(), [0, 1] * upper.high())
        Piece.__init__(self, texts, written("lay", [upper.told(), lower.told()]))


def check_size(ends, picks):
    """Refuse a pattern that would have too many ends or picks."""
    if ends > MOST_STRANDS or picks > MOST_STRANDS:
        raise TooLarge("a pattern would have more than 40 ends or picks")


def check_one_size(one, other):
    """Refuse two pieces that are not of one size."""
    if one.wide() != other.wide() or one.high() != other.high():
        raise NoPattern("two pieces are not of one size")


def prime_to(size, step):
    """Tell whether no number above 1 divides both."""
    return not any([size % k == 0 and step % k == 0 for k in range(2, step + 1)])


def written(word, things):
    """Write a word with things in round brackets."""
    return word + "(" + ",".join(things) + ")"
