"""Turns: the least loss that the friend can hold in so many of them."""

from leastloss.errors import NoTurns
from leastloss.solving import kept_moves

MOST_TURNS = 60


def are_turns(thing):
    """Whether a thing of any kind is a number of turns."""
    return isinstance(thing, int) and not isinstance(thing, bool) and 0 <= thing <= MOST_TURNS


def least_by(answers, held):
    """The least loss by one of these answers, and what is held from the node behind it on."""
    return min([loss + held[node] for friend, loss, node in answers])


def held_longer(good, held):
    """What the friend can hold from each node on in one turn more than in those that are told."""
    longer = []
    for moves in good:
        # Where the foe has no move nothing is lost; at a lost node, None, nothing is asked.
        longer.append(max([least_by(answers, held) for foe, answers in moves or ()], default=0))
    return longer


def least_in(book, turns):
    """The least loss that the friend can hold in so many turns by good answers, else NoBook, Lost or NoTurns."""
    good = kept_moves(book)
    if not are_turns(turns):
        # The words don't show the thing: it may be of any kind and size.
        raise NoTurns("no number of turns from 0 to 60")
    held = [0 for moves in good]
    for turn in range(turns):
        held = held_longer(good, held)
    return held[0]
