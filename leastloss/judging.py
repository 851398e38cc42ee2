"""Judging: whether a machine breaks a must, and if not, which mean the foe can bring about against it."""

from leastloss.games import Numbering, game, settings_of
from leastloss.machines import checked_machine
from leastloss.rings import greatest_ring, ring_mean


class Board:
    """The places that come when a machine plays: pairs of a node and a stand, numbered as they are first met.

    Each has its ways, a tuple (setting, loss, place) for each move in order; loss and place are None where the machine
    breaks a must. All is gone through in order, so places come in the order of the first shortest plays to them.
    """

    def __init__(self, book, machine):
        self.nodes = game(book)
        self.order = settings_of(book[0])
        self.machine = machine
        self.numbering = Numbering((0, 0))
        self.ways = []
        self.came = [None]
        while len(self.ways) < len(self.numbering.met):
            self.enter_ways(len(self.ways))

    def enter_ways(self, place):
        """Gives a place its ways, and each place that is met by them the way by which it came."""
        pair = self.numbering.met[place]
        led = [self.way_by(pair[1], foe, answers) for foe, answers in self.nodes[pair[0]][1]]
        self.ways.append(led)
        for setting, loss, other in led:
            if other == len(self.came):
                self.came.append((place, setting))

    def way_by(self, stand, foe, answers):
        """The way that the machine takes in a stand when the foe makes a move."""
        way = self.machine[stand][self.order.index(foe)]
        for friend, loss, node in answers:
            if friend == way[0]:
                return (foe + friend, loss, self.numbering.number_of((node, way[1])))
        return (foe + way[0], None, None)

    def play_to(self, place):
        """The first of the shortest plays that lead to a place."""
        play = []
        while self.came[place] is not None:
            play.append(self.came[place][1])
            place = self.came[place][0]
        return list(reversed(play))


def first_break(board):
    """The first of the shortest plays at whose last turn the machine breaks a must, None if there is none."""
    for place, led in enumerate(board.ways):
        for setting, loss, other in led:
            if other is None:
                return board.play_to(place) + [setting]
    return None


def judged(book, machine):
    """("breaks", play) or ("mean", mean, head, ring), else NoBook or NoMachine."""
    board = Board(book, checked_machine(book, machine))
    play = first_break(board)
    if play is not None:
        return ("breaks", play)
    ring = greatest_ring(board.ways)
    if not ring:
        # Without a ring all ways end somewhere: at a place where the foe has no move.
        return ("mean", (0, 1), board.play_to(board.ways.index([])), [])
    return ("mean", ring_mean(ring), board.play_to(ring[-1][2]), [way[0] for way in ring])
