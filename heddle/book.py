"""Books of patterns and drafts."""

from heddle.drafts import woven
from heddle.errors import NoPattern, Twice
from heddle.names import is_name
from heddle.notes import read_draft
from heddle.reader import read_pattern


def read_book(text):
    """Tell the list of pairs (name, cloth) of a book, in the order of its lines."""
    pairs = []
    for line in text.split("\n"):
        stripped = line.strip(" ")
        if stripped != "" and not stripped.startswith(";"):
            pairs.append(read_line(stripped, pairs))
    return pairs


def read_line(line, known):
    """Tell the pair (name, cloth) of a line; known has those of the lines above it."""
    place = parting_place(line)
    name = line[:place].strip(" ")
    if not is_name(name):
        raise NoPattern("no name stands where one is due")
    if any([pair[0] == name for pair in known]):
        raise Twice("a name is an earlier line's")
    rest = line[place + 1:].strip(" ")
    if line[place] == "=":
        return (name, read_pattern(rest, known).cloth())
    return (name, woven(read_draft(rest)))


def parting_place(line):
    """Tell the place of the first = or : of a line."""
    for place, sign in enumerate(line):
        if sign in "=:":
            return place
    raise NoPattern("a line has neither = nor :")
