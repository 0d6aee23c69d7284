"""Patterns read from a text: first the whole text as it is written, and then worked out from the inside."""

from heddle.errors import NoPattern, Unknown
from heddle.names import LETTERS, is_name
from heddle.pieces import (Above, Back, Beside, Blocks, Lay, Mirror, Named, Quarter, Rows, Satin, Tile, Twill,
                           Upend)
from heddle.reading import Reader

MOST_DEEP = 12
MOST_RUNS = 40

# What stands in the brackets of each word but rows: p is a pattern, n a number.
THINGS = {
    "twill": "nn", "satin": "nn", "beside": "pp", "above": "pp", "mirror": "p", "upend": "p", "back": "p",
    "quarter": "p", "tile": "pnn", "blocks": "ppp", "lay": "pp",
}


def read_pattern(text, known):
    """Tell the piece that a text writes; known is a list of pairs (name, cloth)."""
    return worked_out(read_whole(text), known)


def read_whole(text):
    """Read a text that writes a pattern and nothing more.

    A pattern is told as the pair (word, things), where things are runs, numbers and patterns; of a name, (name, None).
    """
    reader = Reader(text)
    reader.stretch(" ")
    node = read_node(reader, 1)
    if not reader.ended():
        raise NoPattern("something stands behind the pattern")
    return node


def read_node(reader, depth):
    """Read a pattern, and the blanks behind it; depth counts it too."""
    if depth > MOST_DEEP:
        raise NoPattern("patterns stand within one another more than twelve deep")
    word = reader.stretch(LETTERS)
    reader.stretch(" ")
    if not reader.took("("):
        if not is_name(word):
            raise NoPattern("no pattern stands where one is due")
        return (word, None)
    reader.stretch(" ")
    things = read_things(reader, word, depth + 1)
    if not reader.took(")"):
        raise NoPattern("a bracket does not end where it is due")
    reader.stretch(" ")
    return (word, things)


def read_things(reader, word, depth):
    """Read what stands in the brackets of a word."""
    if word == "rows":
        return read_runs(reader)
    if word not in THINGS:
        raise NoPattern("there is no such word")
    things = []
    for kind in THINGS[word]:
        if things:
            read_comma(reader)
        things.append(read_node(reader, depth) if kind == "p" else read_number(reader))
    return things


def read_runs(reader):
    """Read one run or more."""
    runs = [read_run(reader)]
    while reader.took(","):
        reader.stretch(" ")
        runs.append(read_run(reader))
    if len(runs) > MOST_RUNS:
        raise NoPattern("there are more than 40 runs")
    return runs


def read_run(reader):
    """Read a run, and the blanks behind it."""
    run = reader.stretch("#.")
    if run == "":
        raise NoPattern("no run stands where one is due")
    reader.stretch(" ")
    return run


def read_number(reader):
    """Read a number, and the blanks behind it."""
    number = reader.number()
    if number is None:
        raise NoPattern("no number stands where one is due")
    reader.stretch(" ")
    return number


def read_comma(reader):
    """Read a comma, which has to come next, and the blanks behind it."""
    if not reader.took(","):
        raise NoPattern("no comma stands where one is due")
    reader.stretch(" ")


def worked_out(node, known):
    """Tell the piece for which a pattern stands, from the inside."""
    if node[1] is None:
        return Named(node[0], known_cloth(node[0], known))
    things = [worked_out(thing, known) if isinstance(thing, tuple) else thing for thing in node[1]]
    if node[0] == "rows":
        return Rows(things)
    if len(things) == 1:
        return made_of_one(node[0], things[0])
    if len(things) == 3:
        return made_of_three(node[0], things)
    return made_of_two(node[0], things[0], things[1])


def known_cloth(name, known):
    """Tell the cloth that is known by a name."""
    for one, cloth in known:
        if one == name:
            return cloth
    raise Unknown("a name is not known")


def made_of_one(word, inner):
    """Make a piece of another one."""
    if word == "mirror":
        return Mirror(inner)
    if word == "upend":
        return Upend(inner)
    if word == "back":
        return Back(inner)
    return Quarter(inner)


def made_of_two(word, one, other):
    """Make a piece of two numbers or of two others."""
    if word == "twill":
        return Twill(one, other)
    if word == "satin":
        return Satin(one, other)
    if word == "beside":
        return Beside(one, other)
    if word == "above":
        return Above(one, other)
    return Lay(one, other)


def made_of_three(word, things):
    """Make a piece of three things."""
    if word == "tile":
        return Tile(things[0], things[1], things[2])
    return Blocks(things[0], things[1], things[2])
