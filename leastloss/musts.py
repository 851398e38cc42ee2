"""Musts: in how many turns the foe can break them at each node, and by which move."""

from leastloss.games import game
from leastloss.solving import lost_turns, loses_before


def lost_in(book):
    """For each node in how many turns it is lost, None for one that is not, else NoBook."""
    return lost_turns(game(book))


def breaking_move(moves, lost, turns):
    """The foe's setting of the first move that loses a node in so many turns, None if it is not lost."""
    if turns is None:
        return None
    return [move[0] for move in moves if loses_before(move, lost, turns)][0]


def breaking_moves(book):
    """For each lost node the foe's setting of the first move that loses it so soon, None for others, else NoBook."""
    nodes = game(book)
    lost = lost_turns(nodes)
    return [breaking_move(node[1], lost, turns) for node, turns in zip(nodes, lost)]
