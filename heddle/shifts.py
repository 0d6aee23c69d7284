"""Shifts that leave a cloth without end the same."""

from heddle.cloth import measured


def same_shifted(cloth, x, y):
    """Tell whether each place has the sign of the place that lies x to the right and y further on."""
    measured(cloth)
    return stays(cloth, x, y)


def shifts_of(cloth):
    """Tell the triple (a, b, c): of (a, 0) and (b, c) all shifts are made that leave the cloth the same."""
    measured(cloth)
    a = least_across(cloth, 1, 0)
    c = 1
    b = least_across(cloth, 0, c)
    # A whole cloth further on all is the same again, so this comes to an end.
    while b is None:
        c += 1
        b = least_across(cloth, 0, c)
    return (a, b, c)


def least_across(cloth, first, y):
    """Tell the least x from first on for which the shift (x, y) leaves the cloth the same, or None."""
    # Behind one time round come the same shifts again.
    for x in range(first, first + len(cloth[0])):
        if stays(cloth, x, y):
            return x
    return None


def stays(cloth, x, y):
    """Tell whether a shift leaves the same what is known to be a cloth."""
    for pick in range(len(cloth)):
        if moved(cloth[(pick + y) % len(cloth)], x) != cloth[pick]:
            return False
    return True


def moved(text, x):
    """Tell a text of as many signs, each of them the one that lies x to the right in the text without end."""
    begin = x % len(text)
    return text[begin:] + text[:begin]
