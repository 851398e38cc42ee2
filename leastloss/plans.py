"""Plans of both sides, bettered in turn until neither side can better its own.

While they are bettered, each loss weighs a little less than one a turn sooner. So the plans of both have one worth at
each node, in which all that comes from there counts, where a mean would show nothing but the ring it ends in. With as
much patience as patience_for tells, plans that are best by these worths are best by their means too.
"""


def patience_for(good):
    """How patient the worths must be: a turn later, a loss weighs less by one part in the patience."""
    highest = 0
    for moves in good:
        for foe, answers in moves:
            highest = max([highest] + [loss for friend, loss, node in answers])
    # A worth, shared out over its turns, is off the mean by at most (nodes times highest) in the patience. Two unlike
    # means, of rings of so many nodes at most, are at least 1 in (nodes times nodes) apart. So that no error on either
    # side hides this, twice the one is to be less than the other.
    nodes = len(good)
    return 2 * nodes * nodes * nodes * highest + 1


def worth_with(loss, worth, patience):
    """The worth of a loss now and of a worth, told as (up, down), from the next turn on."""
    return (patience * worth[1] * loss + (patience - 1) * worth[0], patience * worth[1])


def is_less(one, other):
    """Whether a worth is less than another."""
    return one[0] * other[1] < other[0] * one[1]


def least_place(worths, place):
    """The place of the least of these worths: that which is handed in, if none is less than the worth there."""
    # Plans change for something better alone: else they could change for ever.
    for other, worth in enumerate(worths):
        if is_less(worth, worths[place]):
            place = other
    return place


def path_from(steps, node):
    """The nodes that steps (loss, node), one for each node, go through from a node on: (head, ring), both lists."""
    path = []
    while node not in path:
        path.append(node)
        node = steps[node][1]
    start = path.index(node)
    return (path[:start], path[start:])


def ring_worth(steps, ring, patience):
    """The worth at the first node of a ring."""
    once = (0, 1)
    left = 1
    for node in reversed(ring):
        once = worth_with(steps[node][0], once, patience)
        left = left * (patience - 1)
    # Each time round weighs (left by once[1]) of the time ahead: this is the sum of them all.
    return (once[0], once[1] - left)


def worth_from(steps, node, patience):
    """The worth at a node from which both sides go on by these steps."""
    path = path_from(steps, node)
    worth = ring_worth(steps, path[1], patience)
    for ahead in reversed(path[0]):
        worth = worth_with(steps[ahead][0], worth, patience)
    return worth


class Plans:
    """A plan of either side over the good moves of a game: a move's place for each node, an answer's for each move.

    At a node without a move nothing is lost for ever, as if it led to itself. So do lost nodes, to which nothing leads.
    """

    def __init__(self, good):
        self.good = [moves or () for moves in good]
        self.patience = patience_for(self.good)
        self.moves_taken = [0 for moves in self.good]
        self.answers_taken = [[0 for move in moves] for moves in self.good]

    def answer_taken(self, number, place):
        """The answer that the friend gives at a node to the move at a place."""
        return self.good[number][place][1][self.answers_taken[number][place]]

    def step_from(self, number):
        """The loss at a node and the node behind it, by the plans of both."""
        if not self.good[number]:
            return (0, number)
        answer = self.answer_taken(number, self.moves_taken[number])
        return (answer[1], answer[2])

    def steps(self):
        """The steps from all nodes, by the plans of both."""
        return [self.step_from(number) for number in range(len(self.good))]

    def worths(self):
        """The worths at all nodes, by the plans of both."""
        steps = self.steps()
        return [worth_from(steps, number, self.patience) for number in range(len(steps))]

    def better_answer(self, number, place, worths):
        """The place of the answer to a move from which the least is lost."""
        answers = self.good[number][place][1]
        worths_behind = [worth_with(loss, worths[node], self.patience) for friend, loss, node in answers]
        return least_place(worths_behind, self.answers_taken[number][place])

    def friend_betters(self):
        """Betters the friend's plan at all moves at once, if it can be; whether it could."""
        worths = self.worths()
        taken = []
        for number, moves in enumerate(self.good):
            taken.append([self.better_answer(number, place, worths) for place in range(len(moves))])
        bettered = taken != self.answers_taken
        self.answers_taken = taken
        return bettered

    def better_move(self, number, worths):
        """The place of the move from which the most is lost."""
        gains = []
        for place in range(len(self.good[number])):
            answer = self.answer_taken(number, place)
            worth = worth_with(answer[1], worths[answer[2]], self.patience)
            gains.append((-worth[0], worth[1]))
        return least_place(gains, self.moves_taken[number])

    def foe_betters(self):
        """Betters the foe's plan at all nodes at once, if it can be; whether it could."""
        worths = self.worths()
        taken = [self.better_move(number, worths) for number in range(len(self.good))]
        bettered = taken != self.moves_taken
        self.moves_taken = taken
        return bettered


def settled(good):
    """Plans over these good moves that neither side can better."""
    plans = Plans(good)
    # The foe looks at a friend that has done its best alone: else what it takes for better may be none.
    while plans.friend_betters() or plans.foe_betters():
        pass
    return plans
