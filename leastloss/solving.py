"""What is reckoned over the nodes of a game, for whichever file needs it."""

from leastloss.errors import Lost
from leastloss.games import game


def loses_before(move, lost, turns):
    """Whether all answers to a move, if there are any, lead to nodes lost in fewer turns than these."""
    return all([lost[answer[2]] is not None and lost[answer[2]] < turns for answer in move[1]])


def lost_turns(nodes):
    """The list of in how many turns each node is lost, None for one that is not."""
    lost = [None for node in nodes]
    turns = 1
    while True:
        # All of one round are found before any is marked: else one of them could count for another as lost in fewer.
        found = [
            number for number, node in enumerate(nodes)
            if lost[number] is None and any([loses_before(move, lost, turns) for move in node[1]])
        ]
        if not found:
            return lost
        for number in found:
            lost[number] = turns
        turns = turns + 1


def with_good_answers(move, lost):
    """A move with those of its answers alone that lead to nodes that are not lost."""
    return (move[0], tuple([answer for answer in move[1] if lost[answer[2]] is None]))


def good_moves(nodes):
    """For each node its moves, each with its good answers alone; None for a lost node."""
    lost = lost_turns(nodes)
    good = []
    for node, turns in zip(nodes, lost):
        if turns is None:
            good.append(tuple([with_good_answers(move, lost) for move in node[1]]))
        else:
            good.append(None)
    return good


def kept_moves(book):
    """The good moves of a book's game, from which the friend keeps its musts, else NoBook or Lost."""
    good = good_moves(game(book))
    if good[0] is None:
        raise Lost("the foe can make the friend break a must")
    return good
