"""Plays: which lists are plays, what holds at their turns, who breaks what first, and what is lost."""

from leastloss.books import checked, sayings_of
from leastloss.errors import NoPlay
from leastloss.sayings import PAST_WORDS, checked_saying, pieces_in, sayings_within


def now_holds(word, parts):
    """Whether a saying of this word, that asks for this turn alone, holds, by whether its parts do."""
    if word == "not":
        return not parts[0]
    if word == "and":
        return parts[0] and parts[1]
    if word == "or":
        return parts[0] or parts[1]
    if word == "then":
        return parts[1] or not parts[0]
    if word == "same":
        return parts[0] == parts[1]
    return word == "yes"


def past_holds(word, remembered, parts):
    """Whether a past piece of this word holds, by what is remembered of it and by whether its parts hold now."""
    if word == "before":
        return remembered
    if word == "once":
        return remembered or parts[0]
    if word == "sofar":
        return remembered and parts[0]
    return parts[1] or (remembered and parts[0])


class Table:
    """Sayings made ready to be asked turn by turn.

    Each saying that stands in them has one row, behind the rows of its parts: so a turn is reckoned in a single walk.
    """

    def __init__(self, names, sayings):
        self.names = names
        self.pieces = pieces_in(sayings)
        self.rows = []
        self.row_of = {}
        for saying in sayings:
            self.enter(saying)
        self.first_memory = tuple([piece[0] == "sofar" for piece in self.pieces])
        self.remembered_rows = [self.remembered_row(piece) for piece in self.pieces]

    def enter(self, saying):
        """Gives a saying its row, (word, place, rows of its parts), if it has none yet."""
        if saying in self.row_of:
            return
        for part in sayings_within(saying):
            self.enter(part)
        parts = [self.row_of[part] for part in sayings_within(saying)]
        self.row_of[saying] = len(self.rows)
        self.rows.append((saying[0], self.place_of(saying), parts))

    def place_of(self, saying):
        """The place of a lamp in a setting, of a past piece in a memory; None for other sayings."""
        if saying[0] == "lamp":
            return self.names.index(saying[1])
        if saying[0] in PAST_WORDS:
            return self.pieces.index(saying)
        return None

    def remembered_row(self, piece):
        """The row that tells what is remembered of a past piece behind a turn."""
        if piece[0] == "before":
            return self.row_of[piece[1]]
        return self.row_of[piece]

    def held_at(self, memory, setting):
        """The list of whether each row holds at the turn with this memory ahead of it and this setting."""
        held = []
        for word, place, part_rows in self.rows:
            parts = [held[row] for row in part_rows]
            if word == "lamp":
                held.append(setting[place])
            elif word in PAST_WORDS:
                held.append(past_holds(word, memory[place], parts))
            else:
                held.append(now_holds(word, parts))
        return held

    def memory_after(self, held):
        """The memory behind a turn at which the rows held so."""
        return tuple([held[row] for row in self.remembered_rows])


class Rules:
    """The sayings of a book in a table, with the rows of its promises, musts and wishes."""

    def __init__(self, book):
        self.table = Table(book[0] + book[1], sayings_of(book[2], book[3], book[4]))
        self.promise_rows = [self.table.row_of[saying] for saying in book[2]]
        self.must_rows = [self.table.row_of[saying] for saying in book[3]]
        self.priced_rows = [(wish[0], self.table.row_of[wish[1]]) for wish in book[4]]

    def foe_keeps(self, held):
        """Whether the foe keeps its promises at a turn at which the rows held so."""
        return all([held[row] for row in self.promise_rows])

    def friend_keeps(self, held):
        """Whether the friend keeps its musts at a turn at which the rows held so."""
        return all([held[row] for row in self.must_rows])

    def loss_at(self, held):
        """The loss of a turn at which the rows held so."""
        return sum([price for price, row in self.priced_rows if not held[row]])


def is_setting(thing, lamps):
    """Whether a thing of any kind is a setting of so many lamps."""
    return isinstance(thing, tuple) and len(thing) == lamps and all([isinstance(part, bool) for part in thing])


def checked_play(book, play):
    """The play, if it is one for this book, else NoPlay."""
    lamps = len(book[0]) + len(book[1])
    if not isinstance(play, list) or not all([is_setting(setting, lamps) for setting in play]):
        # The words don't show the thing: it may be of any kind and size.
        raise NoPlay("no play for this book")
    return play


def told_by_turn(table, play, tell):
    """The list of what tell makes, turn by turn, of whether the rows of a table hold there."""
    told = []
    memory = table.first_memory
    for setting in play:
        held = table.held_at(memory, setting)
        told.append(tell(held))
        memory = table.memory_after(held)
    return told


def holds(book, saying, play):
    """Whether a saying holds at the last turn of a play of one turn or more, else NoBook, NoSaying or NoPlay."""
    checked(book)
    names = book[0] + book[1]
    checked_saying(names, saying)
    checked_play(book, play)
    if not play:
        raise NoPlay("a play without a turn has no last one")
    table = Table(names, [saying])
    row = table.row_of[saying]
    return told_by_turn(table, play, lambda held: held[row])[-1]


def first_turn_without(kept):
    """The number of the first turn that has False, or None."""
    if False in kept:
        return kept.index(False)
    return None


def first_breaks(book, play):
    """The first turns at which the foe breaks a promise and the friend a must, each or None; else NoBook or NoPlay."""
    checked(book)
    checked_play(book, play)
    rules = Rules(book)
    kept = told_by_turn(rules.table, play, lambda held: (rules.foe_keeps(held), rules.friend_keeps(held)))
    return (first_turn_without([turn[0] for turn in kept]), first_turn_without([turn[1] for turn in kept]))


def losses(book, play):
    """The list of the losses of a play, turn by turn, else NoBook or NoPlay."""
    checked(book)
    checked_play(book, play)
    rules = Rules(book)
    return told_by_turn(rules.table, play, lambda held: rules.loss_at(held))
