"""What is reckoned over the nodes of a game, for whichever file needs it."""


def loses_before(move, lost, turns):
    """Whether all answers to a move, if there are any, lead to nodes lost in fewer turns than these."""
    return all([lost[answer[2]] is not None and lost[answer[2]] < turns for answer in move[1]])


def lost_turns(nodes):
    """The list of in how many turns each node is lost, None for one that is not."""
    lost = [None for node in nodes]
    turns = 1
    while True:
        # All of one round are found before any is marked: else one of them could count for another as lost in fewer.
        found = [
            number for number, node in enumerate(nodes)
            if lost[number] is None and any([loses_before(move, lost, turns) for move in node[1]])
        ]
        if not found:
            return lost
        for number in found:
            lost[number] = turns
        turns = turns + 1
