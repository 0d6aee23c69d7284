"""Cloths, and lists that are none, for the tests of more than one file."""

import itertools
import random

NO_CLOTHS = [[], ["#"] * 41, [""], ["", ""], ["#", ""], ["", "#"], ["#" * 41], ["#" * 40, "#" * 41], ["##", "#"],
             ["#", "##"], ["#.", ".?"], ["# "], ["#.", ".a"], ["-"], ["." * 40] * 39 + ["." * 39 + "?"]]


def all_cloths(ends, picks):
    texts = ["".join(signs) for signs in itertools.product("#.", repeat=ends)]
    return [list(cloth) for cloth in itertools.product(texts, repeat=picks)]


def small_cloths():
    """All cloths of up to three ends and three picks."""
    return [cloth for ends in (1, 2, 3) for picks in (1, 2, 3) for cloth in all_cloths(ends, picks)]


def some_cloths(count, most, seed, signs="#.", least=1):
    """So many cloths of up to so many ends and picks; the same ones for the same seed."""
    source = random.Random(seed)
    cloths = []
    for _ in range(count):
        ends, picks = source.randint(least, most), source.randint(least, most)
        weight = source.choice((1, 1, 1, 3, 9))
        shares = [weight] + [1] * (len(signs) - 1)
        if source.random() < 0.5:
            shares.reverse()
        cloths.append(["".join(source.choices(signs, shares, k=ends)) for _ in range(picks)])
    return cloths


def lies_over(cloth, one, other):
    """Whether a strand lies over another one that it crosses, told straight from points 3 and 4."""
    ends = len(cloth[0])
    if one < ends:
        return cloth[other - ends][one] == "#"
    return cloth[one - ends][other] == "."


def crosses(cloth, one, other):
    return (one < len(cloth[0])) != (other < len(cloth[0]))
