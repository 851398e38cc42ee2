"""Names and sayings: which there are, how deep they are, and which past pieces stand in them."""

from leastloss.errors import NoSaying

LETTERS = "abcdefghijklmnopqrstuvwxyz"
LONGEST_NAME = 8
NO_NAMES = (
    "yes", "no", "not", "and", "or", "then", "same", "before", "once", "sofar", "since",
    "foe", "friend", "promise", "must", "wish",
)
DEEPEST = 8
# The lamp is not among these: within it stands a name, and no saying.
SAYINGS_WITHIN = {
    "yes": 0, "no": 0,
    "not": 1, "before": 1, "once": 1, "sofar": 1,
    "and": 2, "or": 2, "then": 2, "same": 2, "since": 2,
}
PAST_WORDS = ("before", "once", "sofar", "since")


def is_name(thing):
    """Whether a thing of any kind is a name."""
    if not isinstance(thing, str) or thing in NO_NAMES:
        return False
    # The length comes first, so that of a very long text no sign is looked at.
    return 1 <= len(thing) <= LONGEST_NAME and all([sign in LETTERS for sign in thing])


def is_saying(names, thing):
    """Whether a thing of any kind is a saying over these names."""
    return is_saying_within(names, thing, DEEPEST)


def is_saying_within(names, thing, deepest):
    """Whether a thing is a saying of at most this depth: going no deeper, this ends for things of any depth."""
    # The word must be a text before it is looked up, as other things may not be fit for that.
    if deepest < 1 or not isinstance(thing, tuple) or len(thing) < 1 or not isinstance(thing[0], str):
        return False
    if thing[0] == "lamp":
        return len(thing) == 2 and is_name(thing[1]) and thing[1] in names
    if thing[0] not in SAYINGS_WITHIN or len(thing) != 1 + SAYINGS_WITHIN[thing[0]]:
        return False
    return all([is_saying_within(names, part, deepest - 1) for part in thing[1:]])


def checked_saying(names, saying):
    """The saying, if it is one over these names, else NoSaying."""
    if not is_saying(names, saying):
        # The words don't show the thing: it may be too deep to be shown.
        raise NoSaying("no saying over these names")
    return saying


def sayings_within(saying):
    """The sayings that stand straight within a saying, as a tuple."""
    if saying[0] == "lamp":
        return ()
    return saying[1:]


def depth(saying):
    """One more than the greatest depth of the sayings within."""
    # Layer by layer and not by calls within calls, as what waiting makes may be of any depth.
    layers = 0
    layer = [saying]
    while layer:
        layers = layers + 1
        below = []
        for one in layer:
            below.extend(sayings_within(one))
        layer = below
    return layers


def waiting(r, g):
    """The saying that holds just where no r up to then waits for a g."""
    return ("not", ("since", ("not", g), ("and", r, ("not", g))))


def pieces_in(sayings):
    """The past pieces of all these sayings, each once, in the order in which they begin."""
    pieces = []
    # The next one to look at stands last, so a saying's own parts come ahead of what follows it.
    ahead = list(reversed(sayings))
    while ahead:
        saying = ahead.pop()
        if saying[0] in PAST_WORDS and saying not in pieces:
            pieces.append(saying)
        ahead.extend(list(reversed(sayings_within(saying))))
    return pieces


def past_pieces(saying):
    """The past pieces of a saying, each once, in the order in which they begin."""
    return pieces_in([saying])
