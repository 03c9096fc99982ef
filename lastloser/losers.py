"""Who loses (point 13), kept of all sums that were gone through, for those who ask of many."""

from lastloser.walks import led_to


class Losers:
    def __init__(self, game, last):
        self.game = game
        self.last = last
        self.known = {}

    def lost(self, counts):
        # No recursion: plays may be long.
        waiting = [counts]
        while waiting != []:
            later = self.looked(waiting[-1])
            if later is None:
                waiting.pop()
            else:
                waiting.append(later)
        return self.known[counts]

    def looked(self, here):
        # None where it is known by now, or a sum that must be known ahead of it.
        if here in self.known:
            return None
        laters = led_to(self.game, here)
        told = [self.known.get(later) for later in laters]
        if True not in told and None in told:
            return laters[told.index(None)]
        self.known[here] = True not in told if laters != [] else self.last == "wins"
        return None
