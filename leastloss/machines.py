"""Machines: which tuples are machines for a book, how they run, the least and the best of them."""

from leastloss.books import checked, is_row
from leastloss.errors import NoMachine, NoPlay
from leastloss.games import Numbering, game, settings_of
from leastloss.means import friend_plan
from leastloss.plays import is_setting

MOST_STANDS = 64


def is_place(thing, places):
    """Whether a thing of any kind is a whole number from 0 on, below this one."""
    return isinstance(thing, int) and not isinstance(thing, bool) and 0 <= thing < places


def is_way(book, stands, thing):
    """Whether a thing of any kind is a tuple of a friend's setting and the number of one of so many stands."""
    return is_row(thing, 2, 2) and is_setting(thing[0], len(book[1])) and is_place(thing[1], stands)


def is_stand(book, stands, thing):
    """Whether a thing of any kind is a stand of a machine of so many stands."""
    ways = len(settings_of(book[0]))
    return is_row(thing, ways, ways) and all([is_way(book, stands, way) for way in thing])


def is_machine(book, thing):
    """Whether a thing of any kind is a machine for this book."""
    return is_row(thing, 1, MOST_STANDS) and all([is_stand(book, len(thing), stand) for stand in thing])


def checked_machine(book, machine):
    """The machine, if it is one for this book, else NoBook or NoMachine."""
    checked(book)
    if not is_machine(book, machine):
        # The words don't show the thing: it may be of any kind and size.
        raise NoMachine("no machine for this book")
    return machine


def run(book, machine, sets):
    """The play that a machine makes of the foe's settings, turn by turn, else NoBook, NoMachine or NoPlay."""
    checked_machine(book, machine)
    if not isinstance(sets, list) or not all([is_setting(foe, len(book[0])) for foe in sets]):
        raise NoPlay("no list of settings of the foe")
    order = settings_of(book[0])
    play = []
    stand = 0
    for foe in sets:
        way = machine[stand][order.index(foe)]
        play.append(foe + way[0])
        stand = way[1]
    return play


def machine_from(first, ways_of):
    """The machine with a stand for each thing that comes from the first one, numbered as they are first met.

    A thing has a list of ways (friend's setting, thing), one for each foe's setting in order.
    """
    numbering = Numbering(first)
    stands = []
    while len(stands) < len(numbering.met):
        thing = numbering.met[len(stands)]
        stands.append(tuple([(friend, numbering.number_of(other)) for friend, other in ways_of(thing)]))
    return tuple(stands)


def ways_within(ways, leaders):
    """The ways of a stand, with each stand in them told by its leader."""
    return tuple([(friend, leaders[stand]) for friend, stand in ways])


def leaders_of(machine):
    """For each stand the first one that sets the same for all the foe ever sets."""
    leaders = [0 for stand in machine]
    while True:
        # Those that set the same for so many turns are told apart by one turn more, until none is any more.
        looks = [ways_within(stand, leaders) for stand in machine]
        finer = [looks.index(look) for look in looks]
        if finer == leaders:
            return leaders
        leaders = finer


def least_machine(machine):
    """The least machine that sets the same as this one."""
    leaders = leaders_of(machine)
    return machine_from(0, lambda stand: ways_within(machine[stand], leaders))


def lesser(book, machine):
    """The least machine that sets the same as this one for all the foe ever sets, else NoBook or NoMachine."""
    return least_machine(checked_machine(book, machine))


def ways_by_plan(book, number, moves, row):
    """The ways from a node by its row of a friend's plan, for all the foe's settings in order."""
    answers = dict(moves)
    friends = dict(row)
    ways = []
    for foe in settings_of(book[0]):
        if foe in friends:
            ways.extend([(friend, node) for friend, loss, node in answers[foe] if friend == friends[foe]])
        else:
            ways.append((settings_of(book[1])[0], number))
    return ways


def best_machine(book):
    """The least machine that sets as the told friend's plan does, else NoBook or Lost."""
    plan = friend_plan(book)[0]
    nodes = game(book)
    return least_machine(machine_from(0, lambda number: ways_by_plan(book, number, nodes[number][1], plan[number])))
