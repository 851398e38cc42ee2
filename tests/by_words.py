"""The document's own words, read turn by turn over whole plays and without any memory, to hold the program against."""

import itertools
import random

from tests.things import NO, YES

WORDS_OF_ONE = ("not", "before", "once", "sofar")
WORDS_OF_TWO = ("and", "or", "then", "same", "since")


def names_of(book):
    return book[0] + book[1]


def so(names, saying, play, turn):
    """Whether a saying holds at a turn, by the words of [3]."""
    word = saying[0]
    if word == "lamp":
        return play[turn][names.index(saying[1])]
    if word in ("yes", "no"):
        return word == "yes"

    def first(at):
        return so(names, saying[1], play, at)

    def second(at):
        return so(names, saying[2], play, at)

    so_far = range(turn + 1)
    if word == "before":
        return turn > 0 and first(turn - 1)
    if word == "once":
        return any(first(at) for at in so_far)
    if word == "sofar":
        return all(first(at) for at in so_far)
    if word == "since":
        return any(second(at) and all(first(later) for later in range(at + 1, turn + 1)) for at in so_far)
    if word == "not":
        return not first(turn)
    if word == "and":
        return first(turn) and second(turn)
    if word == "or":
        return first(turn) or second(turn)
    if word == "then":
        return second(turn) or not first(turn)
    return first(turn) == second(turn)


def memory(book, pieces, play):
    """The memory behind a play, by the words of [7]."""
    if not play:
        return tuple(piece[0] == "sofar" for piece in pieces)
    told = [piece[1] if piece[0] == "before" else piece for piece in pieces]
    return tuple(so(names_of(book), saying, play, len(play) - 1) for saying in told)


def settings(lamps):
    return list(itertools.product((False, True), repeat=len(lamps)))


def keeps(book, sayings, play):
    """Whether all these sayings hold at the last turn of a play."""
    return all(so(names_of(book), saying, play, len(play) - 1) for saying in sayings)


def loss(book, play):
    """The loss of the last turn of a play, by the words of [6]."""
    return sum(price for price, saying in book[4] if not so(names_of(book), saying, play, len(play) - 1))


def foe_moves(book, play):
    """The foe's settings behind a play by which it keeps its promises."""
    friend = (True,) * len(book[1])
    return [foe for foe in settings(book[0]) if keeps(book, book[2], play + [foe + friend])]


def game(book, pieces):
    """The game, by the words of [8], each node known by the first play that leads to it."""
    plays = [[]]
    memories = [memory(book, pieces, [])]
    nodes = []
    for play in plays:
        moves = []
        for foe in foe_moves(book, play):
            answers = []
            for friend in settings(book[1]):
                longer = play + [foe + friend]
                if keeps(book, book[3], longer):
                    behind = memory(book, pieces, longer)
                    if behind not in memories:
                        memories.append(behind)
                        plays.append(longer)
                    answers.append((friend, loss(book, longer), memories.index(behind)))
            moves.append((foe, tuple(answers)))
        nodes.append((memory(book, pieces, play), tuple(moves)))
    return nodes


def moves_that_lose(nodes, number, turns, seen):
    """The foe's settings that lose a node in at most so many turns, looking ahead from it."""
    if turns == 0:
        return []
    if (number, turns) not in seen:
        seen[number, turns] = [
            foe for foe, answers in nodes[number][1]
            if all(moves_that_lose(nodes, answer[2], turns - 1, seen) for answer in answers)
        ]
    return seen[number, turns]


def lost(nodes):
    """For each node (turns, foe's setting) or (None, None), by the words of [9]."""
    seen = {}
    told = []
    for number in range(len(nodes)):
        found = [
            (turns, moves_that_lose(nodes, number, turns, seen)[0]) for turns in range(1, len(nodes) + 1)
            if moves_that_lose(nodes, number, turns, seen)
        ]
        told.append(found[0] if found else (None, None))
    return told


def some_saying(draw, names, depth):
    """A saying over these names, of at most this depth."""
    if depth == 1 or draw.randrange(6) == 0:
        return draw.choice([("lamp", name) for name in names] * 4 + [YES, NO])
    if draw.randrange(2):
        return (draw.choice(WORDS_OF_ONE), some_saying(draw, names, depth - 1))
    return (draw.choice(WORDS_OF_TWO), some_saying(draw, names, depth - 1), some_saying(draw, names, depth - 1))


def some_promise(draw, foe, friend, depth):
    """A saying that a foe may promise."""
    if draw.randrange(3) == 0:
        return (draw.choice(WORDS_OF_TWO), ("before", some_saying(draw, foe + friend, depth - 2)), ("lamp", foe[0]))
    return some_saying(draw, foe, depth)


def some_books(number):
    """So many things that are mostly books, the same at each call."""
    draw = random.Random(20261116)
    made = []
    for _ in range(number):
        foe = ("a", "b")[:draw.randrange(1, 3)]
        friend = ("x", "y")[:draw.randrange(1, 3)]
        made.append((
            foe, friend,
            tuple(some_promise(draw, foe, friend, 3) for _ in range(draw.randrange(3))),
            tuple(some_saying(draw, foe + friend, 3) for _ in range(draw.randrange(4))),
            tuple((draw.randrange(1, 100), some_saying(draw, foe + friend, 3)) for _ in range(draw.randrange(1, 4))),
        ))
    return made


def some_moving_books(number):
    """So many things that are mostly books, the same at each call, with games of more nodes and longer rings."""
    draw = random.Random(20261117)
    made = []
    for _ in range(number):
        foe = ("a", "b")[:draw.randrange(1, 3)]
        friend = ("x", "y")[:draw.randrange(1, 3)]
        seen = [("lamp", name) for name in foe + friend]
        chosen = draw.choice(seen)
        for _ in range(draw.randrange(1, 4)):
            chosen = ("before", chosen)
            seen.append(chosen)
        if draw.randrange(2):
            seen.append((draw.choice(("before", "once", "sofar")), draw.choice(seen[:len(foe + friend)])))
        fit = [saying for saying in seen if saying[0] == "before" or saying[1] in foe]
        made.append((
            foe, friend,
            tuple(joined(draw, fit, 3) for _ in range(draw.randrange(2))),
            tuple(joined(draw, seen, 3) for _ in range(draw.randrange(2))),
            tuple((draw.randrange(1, 100), joined(draw, seen, 3)) for _ in range(draw.randrange(1, 6))),
        ))
    return made


def joined(draw, sayings, depth):
    """Some of these sayings joined by words that ask for one turn alone."""
    if depth == 0:
        chosen = draw.choice(sayings)
        return ("not", chosen) if draw.randrange(2) else chosen
    return (draw.choice(("and", "or", "then", "same")), joined(draw, sayings, depth - 1), draw.choice(sayings))
