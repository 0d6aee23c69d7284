"""Cloths, and lists that are none, for the tests of more than one file."""

import itertools
import random

NO_CLOTHS = [[], ["#"] * 41, [""], ["", ""], ["#", ""], ["", "#"], ["#" * 41], ["#" * 40, "#" * 41], ["##", "#"],
             ["#", "##"], ["#.", ".?"], ["# "], ["#.", ".a"], ["-"], ["." * 40] * 39 + ["." * 39 + "?"]]


def all_cloths(ends, picks):
    texts = ["".join(signs) for signs in itertools.product("#.", repeat=ends)]
    return [list(cloth) for cloth in itertools.product(texts, repeat=picks)]


def small_cloths():
    """All cloths of up to three ends and three picks."""
    return [cloth for ends in (1, 2, 3) for picks in (1, 2, 3) for cloth in all_cloths(ends, picks)]


def some_cloths(count, most, seed, signs="#.", least=1):
    """So many cloths of up to so many ends and picks; the same ones for the same seed."""
    source = random.Random(seed)
    cloths = []
    for _ in range(count):
        ends, picks = source.randint(least, most), source.randint(least, most)
        weight = source.choice((1, 1, 1, 3, 9))
        shares = [weight] + [1] * (len(signs) - 1)
        if source.random() < 0.5:
            shares.reverse()
        cloths.append(["".join(source.choices(signs, shares, k=ends)) for _ in range(picks)])
    return cloths


def lies_over(cloth, one, other):
    """Whether a strand lies over another one that it crosses, told straight from points 3 and 4."""
    ends = len(cloth[0])
    if one < ends:
        return cloth[other - ends][one] == "#"
    return cloth[one - ends][other] == "."


def crosses(cloth, one, other):
    return (one < len(cloth[0])) != (other < len(cloth[0]))


def strands_of(cloth):
    return list(range(len(cloth[0]) + len(cloth)))


def reached_within(cloth, strands, start):
    """The strands of a set to which a way within it leads from one of them, by a plain search."""
    found, new = {start}, [start]
    while new:
        one = new.pop()
        for other in strands:
            if other not in found and crosses(cloth, one, other) and lies_over(cloth, one, other):
                found.add(other)
                new.append(other)
    return found


def hang_together(cloth, strands):
    return all(reached_within(cloth, strands, strand) == set(strands) for strand in strands)


def twill(over, under):
    """A twill of so many ends and picks as both tell."""
    size = over + under
    return ["".join("#" if (x - y) % size < over else "." for x in range(size)) for y in range(size)]


def satin(size, step):
    return ["".join("#" if x == y * step % size else "." for x in range(size)) for y in range(size)]


def stairs(size):
    """A cloth whose strands lie one over the next in a long line: end 0, pick 0, end 1, pick 1 and so on.

    Of two that cross and don't come next to one another in the line, the later one lies over.
    """
    return ["".join("#" if end == pick or end > pick + 1 else "." for end in range(size)) for pick in range(size)]
