"""Means: the mean loss for ever that the friend holds and the foe brings about, with plans and papers that show it."""

from leastloss.papers import foe_steps, foe_weighs, friend_steps, friend_weighs
from leastloss.plans import path_from, settled
from leastloss.solving import kept_moves


def lowest_terms(up, down):
    """The tuple of two numbers, the second from 1 on, without their greatest common divisor."""
    divisor = down
    rest = up
    while rest:
        remainder = divisor % rest
        divisor = rest
        rest = remainder
    return (up // divisor, down // divisor)


def settled_mean(plans):
    """The mean from node 0 on, by plans that neither side can better."""
    steps = plans.steps()
    ring = path_from(steps, 0)[1]
    return lowest_terms(sum([steps[node][0] for node in ring]), len(ring))


def mean(book):
    """The mean of a book, (up, down), else NoBook or Lost."""
    return settled_mean(settled(kept_moves(book)))


def raised(steps, numbers, weigh):
    """Numbers raised, where they must be, to be enough for one more turn."""
    higher = []
    for led in steps:
        if led is None:
            higher.append(None)
        else:
            higher.append(max([0] + [weigh(loss) + numbers[node] for loss, node in led]))
    return higher


def without_ways_to_none(steps, numbers):
    """Numbers with None also where a step leads to a None, and where one leads to such a one, and so on."""
    while True:
        kept = []
        for number, led in zip(numbers, steps):
            if number is None or any([numbers[node] is None for loss, node in led]):
                kept.append(None)
            else:
                kept.append(number)
        if kept == numbers:
            return kept
        numbers = kept


def paper_over(steps, weigh):
    """The paper for these steps, one list of them for each node; None where no number is enough, and for no list."""
    numbers = [0 for led in steps]
    # A number that is still raised after so many turns as there are nodes is raised by a ring, and so for ever.
    for turn in range(len(steps)):
        numbers = raised(steps, numbers, weigh)
    still = raised(steps, numbers, weigh)
    ended = [number if number == higher else None for number, higher in zip(numbers, still)]
    return without_ways_to_none(steps, ended)


def told_plan(good, rows, steps_by, weigh):
    """The plan of these rows and its paper, with None in both where the plan can't show the mean."""
    steps = []
    for number, moves in enumerate(good):
        steps.append(None if moves is None else steps_by(number, moves, rows[number]))
    paper = paper_over(steps, weigh)
    return ([None if number is None else row for number, row in zip(paper, rows)], paper)


def friend_row(plans, number):
    """What the friend answers at a node to each move."""
    row = []
    for place, move in enumerate(plans.good[number]):
        row.append((move[0], plans.answer_taken(number, place)[0]))
    return tuple(row)


def friend_plan(book):
    """The tuple of a friend's plan and a paper of it that shows the mean, else NoBook or Lost."""
    good = kept_moves(book)
    plans = settled(good)
    told = settled_mean(plans)
    rows = [friend_row(plans, number) for number in range(len(good))]
    return told_plan(good, rows, friend_steps, lambda loss: friend_weighs(told, loss))


def foe_row(plans, number):
    """What the foe sets at a node, () where it has no move."""
    if not plans.good[number]:
        return ()
    return plans.good[number][plans.moves_taken[number]][0]


def foe_plan(book):
    """The tuple of a foe's plan and a paper of it that shows the mean, else NoBook or Lost."""
    good = kept_moves(book)
    plans = settled(good)
    told = settled_mean(plans)
    rows = [foe_row(plans, number) for number in range(len(good))]
    return told_plan(good, rows, foe_steps, lambda loss: foe_weighs(told, loss))
