"""Machines, and things that are none, that several tests hand in."""

from tests import by_words
from tests.things import Untouchable, nested_tuples, odd_things

OFF = (False,)
ON = (True,)

# Copies what the foe sets.
COPY = (((OFF, 0), (ON, 0)),)
# Sets what the foe set at the turn ahead.
LATE = (((OFF, 0), (OFF, 1)), ((ON, 0), (ON, 1)))
# On at every other turn, whatever the foe does.
BLINK = (((OFF, 1), (OFF, 1)), ((ON, 0), (ON, 0)))
# Always off, and always on.
DARK = (((OFF, 0), (OFF, 0)),)
LIGHT = (((ON, 0), (ON, 0)),)


def in_line(stands, friend, last):
    """A machine that goes from stand to stand, whatever the foe does, up to the last one, where it stays."""
    ways = [((friend, place + 1), (friend, place + 1)) for place in range(stands - 1)]
    return tuple(ways) + (((last, stands - 1), (last, stands - 1)),)


def some_machine(draw, whole, most):
    """A machine of at most so many stands, of which several may set the same."""
    stands = draw.randrange(1, most + 1)
    friends = by_words.settings(whole[1])
    friends = draw.choice((friends, friends[:1], friends[-2:]))
    ways = len(by_words.settings(whole[0]))
    return tuple(
        tuple((draw.choice(friends), draw.randrange(stands)) for _ in range(ways)) for _ in range(stands)
    )


def no_machines():
    """Things of many kinds, none of them a machine for a book with one lamp on either side."""
    wrong = odd_things() + [(), list(COPY), COPY[0], COPY * 65, {0: COPY[0]}, [COPY], (COPY,), (list(COPY[0]),), ((),)]
    good = ((OFF, 0), (ON, 0))
    stands = odd_things() + [
        (), good[:1], good + good[:1], good + good, list(good), (good,), ((OFF, 0), [ON, 0]), {0: (OFF, 0), 1: (ON, 0)},
    ]
    ways = odd_things() + [
        (), (OFF,), (OFF, 0, 0), (0, OFF), [OFF, 0], ((), 0), ((False, False), 0), ([False], 0), OFF,
    ]
    for lamp in (0, 1, 0.0, None, "", "F", (), OFF, [False], Untouchable()):
        ways.append(((lamp,), 0))
    for number in (-1, 2, 64, 10 ** 30, True, False, None, 0.0, 1.0, "", "0", (), (0,), [0], Untouchable(), nested_tuples()):
        ways.append((OFF, number))
    for way in ways:
        stands.extend([(way, (ON, 0)), ((OFF, 0), way)])
    for stand in stands:
        wrong.extend([(stand,), (good, stand), (stand, good)])
    return wrong
