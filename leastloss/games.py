"""The game of a book: its memories, and the nodes, moves and answers that come of them."""

from leastloss.books import checked
from leastloss.plays import Rules, checked_play


def memory_behind(book, play):
    """The memory behind a play, else NoBook or NoPlay."""
    checked(book)
    checked_play(book, play)
    table = Rules(book).table
    memory = table.first_memory
    for setting in play:
        memory = table.memory_after(table.held_at(memory, setting))
    return memory


def settings_of(lamps):
    """The settings of these lamps alone, in order."""
    settings = [()]
    for place in range(len(lamps)):
        longer = []
        for setting in settings:
            longer.append(setting + (False,))
            longer.append(setting + (True,))
        settings = longer
    return settings


class Numbering:
    """Things, such as memories, numbered as they are first met."""

    def __init__(self, first):
        self.met = [first]
        self.numbers_met = {first: 0}

    def number_of(self, thing):
        """The number of a thing, a new one if it is met for the first time."""
        if thing not in self.numbers_met:
            self.numbers_met[thing] = len(self.met)
            self.met.append(thing)
        return self.numbers_met[thing]


def foe_settings(book, rules, memory):
    """The foe's settings in order by which it keeps its promises."""
    # What the friend sets now can't be seen in a promise, so any setting of the friend will do.
    friend = settings_of(book[1])[0]
    return [foe for foe in settings_of(book[0]) if rules.foe_keeps(rules.table.held_at(memory, foe + friend))]


def answers_to(book, rules, numbering, memory, foe):
    """The answers to a foe's setting, in order."""
    answers = []
    for friend in settings_of(book[1]):
        held = rules.table.held_at(memory, foe + friend)
        if rules.friend_keeps(held):
            node = numbering.number_of(rules.table.memory_after(held))
            answers.append((friend, rules.loss_at(held), node))
    return tuple(answers)


def game(book):
    """The game of a book, a list of nodes (memory, moves), else NoBook."""
    checked(book)
    rules = Rules(book)
    numbering = Numbering(rules.table.first_memory)
    nodes = []
    while len(nodes) < len(numbering.met):
        memory = numbering.met[len(nodes)]
        moves = []
        for foe in foe_settings(book, rules, memory):
            moves.append((foe, answers_to(book, rules, numbering, memory, foe)))
        nodes.append((memory, tuple(moves)))
    return nodes
