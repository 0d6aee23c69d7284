"""The desk: a book of patterns in which questions stand, and the answers to these."""

from heddle.book import read_book
from heddle.cloth import measured
from heddle.drafts import least_draft
from heddle.endless import overs_within
from heddle.errors import NoPattern, WeaveError
from heddle.finish import finished_cloth
from heddle.floats import longest_float
from heddle.layers import layers_of
from heddle.made import made_draft
from heddle.names import is_name
from heddle.notes import written_draft
from heddle.reader import known_cloth
from heddle.reading import FIGURES
from heddle.rows import unfolded
from heddle.shifts import shifts_of
from heddle.shuttles import seams_of, sheets_of, tubes_of
from heddle.ways import round_way

MOST_FIGURES = 60
ASKED_OF_A_NAME = ("cloth", "layers", "draft", "shifts", "floats")


def answers_to(paper):
    """Tell the answers to the questions of a paper, in their order."""
    lines = [line.strip(" ") for line in paper.split("\n")]
    book = read_book("\n".join([line for line in lines if not line.startswith("?")]))
    return [answer_to(words_of(line[1:]), book) for line in lines if line.startswith("?")]


def words_of(text):
    """Tell the words of a text."""
    return [word for word in text.split(" ") if word != ""]


def answer_to(words, book):
    """Tell the answer to a question, also where it is refused."""
    try:
        return answered(words, book)
    except WeaveError as e:
        return ("refused", e.called())


def answered(words, book):
    """Tell the answer to a question."""
    word = words[0] if words else ""
    if word in ASKED_OF_A_NAME:
        return of_a_name(word, words[1:], book)
    if word == "overs":
        return overs(words[1:], book)
    if word == "sheets":
        return sheets(words[1:], book)
    if word == "finish":
        return finished_cloth(words[1:])
    if word == "paint":
        return paint(words[1:])
    raise NoPattern("there is no such question")


def of_a_name(word, things, book):
    """Answer a question that has a name behind its word and nothing more."""
    check_count(len(things) == 1)
    check_name(things[0])
    cloth = known_cloth(things[0], book)
    if word == "cloth":
        return ("cloth", list(cloth))
    if word == "layers":
        layers = layers_of(cloth)
        return ("layers", layers, [round_way(cloth, layer) for layer in layers])
    if word == "draft":
        return ("draft", written_draft(least_draft(cloth)))
    if word == "shifts":
        return ("shifts",) + shifts_of(cloth)
    return ("floats", [longest_float(cloth, strand) for strand in range(sum(measured(cloth)))])


def overs(things, book):
    """Answer how many places of a field have an end over a pick."""
    check_count(len(things) == 5)
    check_name(things[0])
    left = far_number(things[1])
    first = far_number(things[2])
    wide = whole_number(things[3])
    high = whole_number(things[4])
    return ("overs", overs_within(known_cloth(things[0], book), left, first, wide, high))


def sheets(things, book):
    """Answer how the shuttles of a row join the layers."""
    check_count(len(things) >= 1)
    check_name(things[0])
    cloth = known_cloth(things[0], book)
    shuttles = unfolded(" ".join(things[1:]))
    return ("sheets", seams_of(cloth, shuttles), tubes_of(cloth, shuttles), sheets_of(cloth, shuttles))


def paint(things):
    """Answer what can be made for a picture, a draft as its written text."""
    check_count(len(things) >= 2)
    made = made_draft(things[2:], things[0], things[1])
    if made[0] == "draft":
        return ("draft", written_draft(made[1]), made[2], made[3])
    return made


def check_count(fits):
    """Refuse a question where its count of words does not fit."""
    if not fits:
        raise NoPattern("the question has too many or too few words")


def check_name(word):
    """Refuse a word that stands where a name is due, and is none."""
    if not is_name(word):
        raise NoPattern("no name stands where one is due")


def far_number(word):
    """Tell the number that a word writes, which may be below nought."""
    if word == "-0":
        raise NoPattern("0 is not written so")
    if word.startswith("-"):
        return -whole_number(word[1:])
    return whole_number(word)


def whole_number(word):
    """Tell the number that the figures of a word write."""
    if len(word) < 1 or len(word) > MOST_FIGURES or any([sign not in FIGURES for sign in word]):
        raise NoPattern("no number stands where one is due")
    if word != "0" and word.startswith("0"):
        raise NoPattern("a number begins with 0")
    return int(word)
