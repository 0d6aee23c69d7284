"""Rows of numbers: read from a text, and written as one."""

from heddle.errors import NoRow, TooLarge
from heddle.reading import Reader

MOST_NUMBERS = 400
MOST_DEEP = 8


class Path:
    """An item of a written row: stops, and the way from each to the next by steps of one."""

    def __init__(self, stops):
        self.stops = stops

    def size(self):
        """Tell how many numbers the path writes."""
        total = 1
        for k in range(1, len(self.stops)):
            total += abs(self.stops[k] - self.stops[k - 1])
        return total

    def numbers(self):
        """Tell the numbers that the path writes."""
        written = [self.stops[0]]
        for stop in self.stops[1:]:
            written.extend(steps_between(written[-1], stop))
        return written


class Times:
    """An item of a written row: other items, so many times over."""

    def __init__(self, count, inner):
        self.count = count
        self.inner = inner

    def size(self):
        """Tell how many numbers the times writes."""
        return self.count * whole_size(self.inner)

    def numbers(self):
        """Tell the numbers that the times writes."""
        return all_numbers(self.inner) * self.count


def unfolded(text):
    """Tell the row that the text writes."""
    row_items = read_row(text)
    # A short text can write a row too long to be made, so its size is asked first.
    if whole_size(row_items) > MOST_NUMBERS:
        raise TooLarge("the row has more than 400 numbers")
    return all_numbers(row_items)


def size_of(text):
    """Tell how many numbers the text writes."""
    return whole_size(read_row(text))


def shown(row):
    """Write a row by paths alone, each as long as it can be."""
    return " ".join([written_path(path) for path in parted(row)])


def whole_size(row_items):
    """Tell how many numbers the items write together."""
    return sum([item.size() for item in row_items])


def all_numbers(row_items):
    """Tell the numbers that the items write, one item behind the other."""
    written = []
    for item in row_items:
        written.extend(item.numbers())
    return written


def steps_between(start, stop):
    """Tell the numbers on the way from start to stop, without start and with stop."""
    if start < stop:
        return list(range(start + 1, stop + 1))
    return list(range(start - 1, stop - 1, -1))


def read_row(text):
    """Tell the items of a written row."""
    if text == "":
        return []
    reader = Reader(text)
    row_items = read_items(reader, 0)
    if not reader.ended():
        raise NoRow("a sign stands where an item has ended")
    return row_items


def read_items(reader, depth):
    """Read one item or more; depth tells how many times they stand within."""
    row_items = [read_item(reader, depth)]
    while reader.took(" "):
        row_items.append(read_item(reader, depth))
    return row_items


def read_item(reader, depth):
    """Read a path or a times, both of which begin with a number."""
    first = read_number(reader)
    if reader.took("*("):
        return read_times(reader, first, depth + 1)
    return read_path(reader, first)


def read_times(reader, count, depth):
    """Read a times from behind its first bracket on; depth counts it too."""
    if count == 0:
        raise NoRow("a times is of 0")
    if depth > MOST_DEEP:
        raise NoRow("times stand within one another more than eight deep")
    inner = read_items(reader, depth)
    if not reader.took(")"):
        raise NoRow("a times has no end")
    return Times(count, inner)


def read_path(reader, first):
    """Read a path from behind its first number on."""
    stops = [first]
    while reader.took("-"):
        stops.append(read_number(reader))
    return Path(stops)


def read_number(reader):
    """Read a number, which has to come next."""
    number = reader.number()
    if number is None:
        raise NoRow("no number stands where one is due")
    return number


def parted(row):
    """Part a row into its paths, each as the list of all its numbers."""
    paths = []
    for number in row:
        if paths and abs(number - paths[-1][-1]) == 1:
            paths[-1].append(number)
        else:
            paths.append([number])
    return paths


def written_path(path):
    """Write a path that is told as the list of all its numbers."""
    return "-".join([str(path[k]) for k in range(len(path)) if is_stop(path, k)])


def is_stop(path, k):
    """Tell whether number k of a path is its first, its last, or one at which its steps turn."""
    if k == 0 or k == len(path) - 1:
        return True
    # All steps are of one, so they turn just where the numbers on both sides are the same.
    return path[k - 1] == path[k + 1]
