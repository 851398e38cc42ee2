"""Books changed: which wishes are spare, which are kept together, and two books side by side."""

from leastloss.books import checked, is_book
from leastloss.errors import NoBook, TooBig
from leastloss.means import mean


def mean_of(book, places):
    """The mean of the book with the wishes at these places alone, 0 without any."""
    if not places:
        return (0, 1)
    return mean(book[:4] + (tuple([book[4][place] for place in places]),))


def without(places, place):
    """These places but for one."""
    return [other for other in places if other != place]


def spare(book):
    """The list of the places of spare wishes, else NoBook or Lost."""
    whole = mean(book)
    places = list(range(len(book[4])))
    return [place for place in places if mean_of(book, without(places, place)) == whole]


def choices_of(places):
    """All choices of rising places below this number, as tuples."""
    choices = [()]
    for place in range(places):
        choices = choices + [choice + (place,) for choice in choices]
    return choices


def lies_in(choice, other):
    """Whether all places of a choice are among those of another."""
    return all([place in other for place in choice])


def kept_together(book):
    """The list of the greatest choices of places of wishes that are kept together, else NoBook or Lost."""
    # Asked ahead of all else, as without wishes nothing would be refused.
    mean(book)
    kept = []
    # The greatest choices first: what lies in one that is kept needs no asking.
    for choice in sorted(choices_of(len(book[4])), key=len, reverse=True):
        if not any([lies_in(choice, other) for other in kept]) and mean_of(book, choice) == (0, 1):
            kept.append(choice)
    return sorted(kept)


def beside(one, other):
    """The book of two books side by side, else NoBook or TooBig."""
    checked(one)
    checked(other)
    names = other[0] + other[1]
    if any([name in names for name in one[0] + one[1]]):
        raise NoBook("a name in both")
    both = tuple([mine + yours for mine, yours in zip(one, other)])
    if not is_book(both):
        raise TooBig("both together are no book")
    return both
