"""What several tests hand in."""

YES = ("yes",)
NO = ("no",)
A = ("lamp", "a")
B = ("lamp", "b")
X = ("lamp", "x")
Y = ("lamp", "y")

NO_NAMES = (
    "yes", "no", "not", "and", "or", "then", "same", "before", "once", "sofar", "since",
    "foe", "friend", "promise", "must", "wish",
)


class Untouchable:
    """Something that stands no comparison, no hash, no truth test, no measuring and no walk."""

    __hash__ = None

    def __eq__(self, other):
        raise RuntimeError("compared")

    def __bool__(self):
        raise RuntimeError("asked for its truth")

    def __len__(self):
        raise RuntimeError("measured")

    def __iter__(self):
        raise RuntimeError("walked")


def deep(wanted, word="not", core=YES):
    """A saying of the depth that is wanted, made of a word with one part."""
    saying = core
    for _ in range(wanted - 1):
        saying = (word, saying)
    return saying


def nested_tuples():
    nest = ()
    for _ in range(100000):
        nest = (nest,)
    return nest


def no_tuples():
    """Things of many kinds, none of them a tuple."""
    ring = []
    ring.append(ring)
    return [
        None, True, False, 0, 1, 5, 1.5, "", "a", "yes", "lamp", "abcde", b"yes", [], ["a"], ["yes"], ["lamp", "a"],
        {}, {"a": 1}, {0: "yes"}, {"a"}, frozenset(("yes",)), object(), len, tuple, iter(("yes",)), range(5), ring,
        Untouchable(),
    ]


def odd_things():
    return no_tuples() + [nested_tuples()]


def book(foe=("a",), friend=("x",), promises=(), musts=(), wishes=((1, YES),)):
    return (foe, friend, promises, musts, wishes)


def wide(promises=(), musts=(), wishes=((1, YES),)):
    return (("a", "b"), ("x", "y"), promises, musts, wishes)


def no_books():
    """Things of many kinds, none of them a book."""
    return odd_things() + [
        (), list(book()), book()[:4], book() + ((),), book(foe=()), book(foe=("a", "b", "c")), book(friend=("a",)),
        book(promises=(X,)), book(promises=(YES,) * 4), book(musts=(("maybe",),)), book(musts=(deep(9),)),
        book(wishes=()), book(wishes=((0, YES),)), book(wishes=((True, YES),)), book(wishes=((1, B),)),
        book(wishes=tuple((1, ("once", deep(size, "not", X))) for size in range(1, 6))),
    ]


def no_plays(lamps):
    """Things of many kinds, none of them a play of so many lamps; a play that is empty is not among them."""
    good = (True,) * lamps
    bad_settings = [
        None, True, False, 0, 1, "", "1" * lamps, list(good), [], (), good + (True,), good[1:], (good,), set(good),
        dict.fromkeys(range(lamps), True), Untouchable(), nested_tuples(), (True,) * 100000,
    ]
    for bad in (1, 0, 1.0, "True", "", "1", None, (True,), [True], Untouchable()):
        for place in range(lamps):
            bad_settings.append(good[:place] + (bad,) + good[place + 1:])
    ring = []
    ring.append(ring)
    plays = [[bad] for bad in bad_settings]
    plays += [[good, bad] for bad in bad_settings] + [[bad, good] for bad in bad_settings]
    plays += [[good, good, bad, good] for bad in bad_settings]
    plays += [(), (good,), (good, good), good, {0: good}, {good: good}, iter([good]), {good}, range(0), ring]
    return plays + [thing for thing in odd_things() if not (isinstance(thing, list) and len(thing) == 0)]
