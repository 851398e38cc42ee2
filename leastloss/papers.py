"""Papers: whether a plan of the friend or of the foe and its paper show a mean."""

from leastloss.books import is_row
from leastloss.games import game
from leastloss.plays import is_setting
from leastloss.solving import good_moves


def friend_weighs(mean, loss):
    """What a turn with this loss takes from the friend's paper."""
    return mean[1] * loss - mean[0]


def foe_weighs(mean, loss):
    """What a turn with this loss takes from the foe's paper."""
    return mean[0] - mean[1] * loss


def friend_steps(number, moves, row):
    """The steps (loss, node) from a node by a row of the friend's plan, whatever the foe does."""
    if not moves:
        return [(0, number)]
    steps = []
    for move, pair in zip(moves, row):
        steps.extend([(loss, node) for friend, loss, node in move[1] if friend == pair[1]])
    return steps


def foe_steps(number, moves, row):
    """The steps (loss, node) from a node by a row of the foe's plan, whatever good answer the friend gives."""
    # A node without a move leads to itself and loses nothing: so its number is enough if up is 0, and never else.
    if not moves:
        return [(0, number)]
    steps = []
    for foe, answers in moves:
        if foe == row:
            steps.extend([(loss, node) for friend, loss, node in answers])
    return steps


def is_that_setting(thing, setting):
    """Whether a thing of any kind is this setting."""
    # Being alike is not enough: 1 and 0 are like True and False.
    return is_setting(thing, len(setting)) and thing == setting


def answers_well(move, thing):
    """Whether a thing of any kind is a tuple of the move's own setting and that of a good answer to it."""
    if not is_row(thing, 2, 2) or not is_that_setting(thing[0], move[0]):
        return False
    return any([is_that_setting(thing[1], answer[0]) for answer in move[1]])


def is_friend_row(moves, thing):
    """Whether a thing of any kind can stand in a friend's plan at a node with these good moves."""
    if not is_row(thing, len(moves), len(moves)):
        return False
    return all([answers_well(move, pair) for move, pair in zip(moves, thing)])


def is_foe_row(moves, thing):
    """Whether a thing of any kind can stand in a foe's plan at a node with these good moves."""
    if not moves:
        return is_row(thing, 0, 0)
    return any([is_that_setting(thing, move[0]) for move in moves])


def is_count(thing):
    """Whether a thing of any kind is a whole number from 0 on."""
    return isinstance(thing, int) and not isinstance(thing, bool) and thing >= 0


def are_plan_and_paper(good, plan, paper, is_plan_row):
    """Whether things of any kind are a plan and a paper of it, row by row, over these good moves."""
    if not isinstance(plan, list) or not isinstance(paper, list):
        return False
    if len(plan) != len(good) or len(paper) != len(good):
        return False
    for moves, row, number in zip(good, plan, paper):
        if row is None or number is None:
            if row is not None or number is not None:
                return False
        elif moves is None or not is_count(number) or not is_plan_row(moves, row):
            return False
    return True


def covers(number, steps, paper, weigh):
    """Whether a node's number is enough for each step from it, and each leads to a node that has one."""
    return all([paper[node] is not None and number >= weigh(loss) + paper[node] for loss, node in steps])


def shows(book, plan, paper, is_plan_row, steps_by, weigh):
    """Whether a plan and a paper of one side show a mean, that stands in how it weighs a loss."""
    good = good_moves(game(book))
    if not are_plan_and_paper(good, plan, paper, is_plan_row) or plan[0] is None:
        return False
    for number, row in enumerate(plan):
        if row is not None and not covers(paper[number], steps_by(number, good[number], row), paper, weigh):
            return False
    return True


def friend_shows(book, mean, plan, paper):
    """Whether a friend's plan and its paper show this mean, False for what is no such plan or paper; else NoBook."""
    return shows(book, plan, paper, is_friend_row, friend_steps, lambda loss: friend_weighs(mean, loss))


def foe_shows(book, mean, plan, paper):
    """Whether a foe's plan and its paper show this mean, False for what is no such plan or paper; else NoBook."""
    return shows(book, plan, paper, is_foe_row, foe_steps, lambda loss: foe_weighs(mean, loss))
