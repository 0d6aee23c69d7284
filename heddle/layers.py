"""The layers of a cloth, from the top down."""

from heddle.cloth import measured
from heddle.strands import scores_of


def tops_of(cloth):
    """Tell (0, 0), and then for each layer how many ends and picks are in it and the layers above it."""
    size = measured(cloth)
    scores = scores_of(cloth)
    end_scores = sorted(scores[:size[0]], reverse=True)
    pick_scores = sorted(scores[size[0]:], reverse=True)
    tops = []
    for ends in range(size[0] + 1):
        for picks in range(size[1] + 1):
            crossings = ends * size[1] + picks * size[0] - ends * picks
            # The best strands lie over all others just where all crossings that they have a part in score for them.
            if sum(end_scores[:ends]) + sum(pick_scores[:picks]) == crossings:
                tops.append((ends, picks))
    return tops


def layers_of(cloth):
    """Tell the layers from the top down, each as the rising list of its strands."""
    size = measured(cloth)
    scores = scores_of(cloth)
    # Where scores are the same, the lesser number stays ahead.
    ends = sorted(range(size[0]), key=lambda end: -scores[end])
    picks = sorted(range(size[0], len(scores)), key=lambda pick: -scores[pick])
    tops = tops_of(cloth)
    layers = []
    for upper, lower in zip(tops, tops[1:]):
        layers.append(sorted(ends[upper[0]:lower[0]] + picks[upper[1]:lower[1]]))
    return layers


def layer_numbers(cloth):
    """Tell for each strand the number of its layer, counted from 0 at the top."""
    layers = layers_of(cloth)
    numbers = [0] * sum([len(layer) for layer in layers])
    for number, layer in enumerate(layers):
        for strand in layer:
            numbers[strand] = number
    return numbers
