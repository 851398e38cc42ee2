"""Books: which tuples are books, and which past pieces stand in one."""

from leastloss.errors import NoBook
from leastloss.sayings import is_name, is_saying, pieces_in, sayings_within

MOST_LAMPS = 2
MOST_PROMISES = 3
MOST_MUSTS = 3
MOST_WISHES = 5
HIGHEST_PRICE = 99
MOST_PIECES = 4


def is_row(thing, fewest, most):
    """Whether a thing of any kind is a tuple with so many parts."""
    return isinstance(thing, tuple) and fewest <= len(thing) <= most


def are_lamps(foe, friend):
    """Whether these are the names of the foe's and the friend's lamps, all unlike."""
    if not is_row(foe, 1, MOST_LAMPS) or not is_row(friend, 1, MOST_LAMPS):
        return False
    names = foe + friend
    return all([is_name(name) for name in names]) and len(set(names)) == len(names)


def are_sayings(names, things, most):
    """Whether this is a tuple of at most so many sayings over these names."""
    return is_row(things, 0, most) and all([is_saying(names, thing) for thing in things])


def stands_bare(names, saying):
    """Whether a lamp of one of these names stands in a saying within no before."""
    if saying[0] == "before":
        return False
    if saying[0] == "lamp":
        return saying[1] in names
    return any([stands_bare(names, part) for part in sayings_within(saying)])


def are_promises(names, friend, things):
    """Whether these are promises over all the names, that the foe can keep before the friend sets its lamps."""
    return are_sayings(names, things, MOST_PROMISES) and not any([stands_bare(friend, thing) for thing in things])


def is_price(thing):
    """Whether a thing of any kind is a price."""
    return isinstance(thing, int) and not isinstance(thing, bool) and 1 <= thing <= HIGHEST_PRICE


def is_wish(names, thing):
    """Whether a thing of any kind is a wish over these names."""
    return is_row(thing, 2, 2) and is_price(thing[0]) and is_saying(names, thing[1])


def are_wishes(names, things):
    """Whether these are the wishes of a book."""
    return is_row(things, 1, MOST_WISHES) and all([is_wish(names, thing) for thing in things])


def sayings_of(promises, musts, wishes):
    """The sayings of a book in their order."""
    return list(promises) + list(musts) + [wish[1] for wish in wishes]


def is_book(thing):
    """Whether a thing of any kind is a book."""
    if not is_row(thing, 5, 5) or not are_lamps(thing[0], thing[1]):
        return False
    friend = thing[1]
    names = thing[0] + friend
    promises = thing[2]
    musts = thing[3]
    wishes = thing[4]
    if not are_promises(names, friend, promises) or not are_sayings(names, musts, MOST_MUSTS):
        return False
    # The pieces come last: only in what is known to be sayings can they be looked for.
    return are_wishes(names, wishes) and len(pieces_in(sayings_of(promises, musts, wishes))) <= MOST_PIECES


def checked(book):
    """The book, if it is one, else NoBook."""
    if not is_book(book):
        # The words don't show the thing: it may be too deep to be shown.
        raise NoBook("no book")
    return book


def book_pieces(book):
    """The past pieces of a book, each once, in the order in which they begin, else NoBook."""
    checked(book)
    return pieces_in(sayings_of(book[2], book[3], book[4]))
