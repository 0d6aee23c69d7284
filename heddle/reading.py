"""Reading a text sign by sign."""

FIGURES = "0123456789"


class Reader:
    """A text, and the place up to which it has been read."""

    def __init__(self, text):
        self.text = text
        self.place = 0

    def ended(self):
        """Tell whether the whole text has been read."""
        return self.place == len(self.text)

    def took(self, wanted):
        """Read the wanted signs if they come next, and tell whether they did."""
        behind = self.place + len(wanted)
        if self.text[self.place:behind] != wanted:
            return False
        self.place = behind
        return True

    def stretch(self, signs):
        """Read as many of these signs as come next, and tell them."""
        begin = self.place
        while not self.ended() and self.text[self.place] in signs:
            self.place += 1
        return self.text[begin:self.place]

    def number(self):
        """Read all figures that come next; tell the number, or None where they don't write one."""
        return number_of(self.stretch(FIGURES))


def number_of(figures):
    """Tell the number that one or two figures write, or None where they are not as told."""
    if len(figures) < 1 or len(figures) > 2:
        return None
    if len(figures) == 2 and figures[0] == "0":
        return None
    return int(figures)
