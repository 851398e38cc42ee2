"""Rings: of those that can be gone round over given ways, one with the greatest mean.

A way is a tuple (setting, loss, place); each place has a list of ways that lead from it to other places.
"""

from leastloss.means import lowest_terms
from leastloss.papers import friend_weighs


def ring_mean(ring):
    """The mean of the losses of a ring, a list of ways."""
    return lowest_terms(sum([way[1] for way in ring]), len(ring))


def ring_from(taken, start):
    """The ring that is gone round, by the way taken from each place, from a place that lies in it."""
    ring = [taken[start]]
    while ring[-1][2] != start:
        ring.append(taken[ring[-1][2]])
    return ring


def ring_in(taken):
    """A ring that is gone round by the way taken from each place, None where none is; an empty list without one."""
    walked = [None for way in taken]
    for start in range(len(taken)):
        place = start
        while walked[place] is None and taken[place] is not None:
            walked[place] = start
            place = taken[place][2]
        if walked[place] == start:
            return ring_from(taken, place)
    return []


class Climb:
    """For each place how much more than a mean can be lost from there on, as far as is seen, and the way taken for it.

    A height is never above that of the place behind the way taken and what that way adds; and round a ring of ways
    taken it is below in one place, as the height that was raised last was seen by none of the others. So more is lost
    round such a ring than the mean.
    """

    def __init__(self, ways, told):
        self.ways = ways
        self.weighed = [[(friend_weighs(told, way[1]), way[2]) for way in led] for led in ways]
        self.heights = [0 for led in ways]
        self.taken = [None for led in ways]

    def raised_at(self, place):
        """Raises the height of a place, if it can be; whether it could."""
        worths = [weight + self.heights[other] for weight, other in self.weighed[place]]
        best = max(worths, default=0)
        if best <= self.heights[place]:
            return False
        self.heights[place] = best
        self.taken[place] = self.ways[place][worths.index(best)]
        return True

    def raised_somewhere(self):
        """Raises the height of each place that can be; whether one could."""
        raised = False
        # Most ways lead to later places: begun with the last, what was raised there is seen ahead of it at once.
        for place in range(len(self.ways) - 1, -1, -1):
            if self.raised_at(place):
                raised = True
        return raised


def ring_above(ways, told):
    """A ring with a mean greater than this one, an empty list if there is none."""
    climb = Climb(ways, told)
    # Without a ring no height is above what is lost on a path of unlike places: so either one is found, or this ends.
    while climb.raised_somewhere():
        ring = ring_in(climb.taken)
        if ring:
            return ring
    return []


def greatest_ring(ways):
    """A ring with the greatest mean, an empty list if there is no ring."""
    best = []
    # No loss is below 0, so any ring has a mean above this one.
    ring = ring_above(ways, (-1, 1))
    while ring:
        best = ring
        ring = ring_above(ways, ring_mean(best))
    return best
