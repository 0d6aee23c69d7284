"""The loom: treadles pressed and lifted, picks thrown and taken off, and each of these deeds undone."""

from heddle.cloth import MOST_STRANDS
from heddle.drafts import Draft, check_setting, shed_over, unlike
from heddle.errors import NoDeed, TooLarge


class Loom:
    """A loom that is set with a threading and ties.

    down has the treadles that are down, in the order in which they were put there. thrown has for each pick the pair
    of the shafts over which it was thrown and its colour. deeds has for each deed that can be taken back the pair of
    its name and what has to be known to take it back.
    """

    def __init__(self, threading, ties):
        check_setting(threading, ties)
        self.threading = list(threading)
        self.ties = [list(tie) for tie in ties]
        self.down = []
        self.thrown = []
        self.deeds = []

    def press(self, treadle):
        """Put a treadle down."""
        if treadle < 0 or treadle >= len(self.ties):
            raise NoDeed("the loom has no such treadle")
        if treadle in self.down:
            raise NoDeed("the treadle is down")
        self.down.append(treadle)
        self.deeds.append(("press", treadle))

    def lift(self, treadle):
        """Put a treadle up again."""
        # A treadle that the loom does not have is never down.
        if treadle not in self.down:
            raise NoDeed("the treadle is not down")
        self.down.remove(treadle)
        self.deeds.append(("lift", treadle))

    def throw(self, colour):
        """Weave one more pick over the shed as it is now."""
        if len(self.thrown) >= MOST_STRANDS:
            raise TooLarge("40 picks are woven")
        self.thrown.append((self.lifted_shafts(), colour))
        self.deeds.append(("throw", None))

    def unthrow(self):
        """Take the last pick off, and tell its colour."""
        if not self.thrown:
            raise NoDeed("nothing is woven")
        pick = self.thrown.pop()
        self.deeds.append(("unthrow", pick))
        return pick[1]

    def undo(self):
        """Take back the last deed that is not taken back yet."""
        if not self.deeds:
            raise NoDeed("no deed is left")
        deed = self.deeds.pop()
        if deed[0] == "press":
            self.down.remove(deed[1])
        elif deed[0] == "lift":
            self.down.append(deed[1])
        elif deed[0] == "throw":
            self.thrown.pop()
        else:
            self.thrown.append(deed[1])

    def deeds_done(self):
        """Tell how many deeds can be taken back."""
        return len(self.deeds)

    def treadles_down(self):
        """Tell the rising list of the treadles that are down."""
        return sorted(self.down)

    def shed(self):
        """Tell the signs of the pick that would be thrown now."""
        return shed_over(self.threading, self.lifted_shafts())

    def cloth(self):
        """Tell what is woven, pick by pick."""
        return [shed_over(self.threading, shafts) for shafts, colour in self.thrown]

    def colours(self):
        """Tell the colours of the picks."""
        return [colour for shafts, colour in self.thrown]

    def draft(self):
        """Tell a draft that weaves the cloth."""
        if not self.thrown:
            raise NoDeed("nothing is woven")
        lifted = [shafts for shafts, colour in self.thrown]
        ties = unlike(lifted)
        return Draft(self.threading, ties, [ties.index(shafts) for shafts in lifted])

    def lifted_shafts(self):
        """Tell the rising list of all shafts that the treadles lift that are down."""
        shafts = []
        for treadle in self.down:
            shafts.extend(self.ties[treadle])
        return sorted(set(shafts))
