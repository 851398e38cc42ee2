"""What several tests hand in."""

YES = ("yes",)

NO_NAMES = (
    "yes", "no", "not", "and", "or", "then", "same", "before", "once", "sofar", "since",
    "foe", "friend", "promise", "must", "wish",
)


class Untouchable:
    """Something that stands no comparison, no hash, no truth test, no measuring and no walk."""

    __hash__ = None

    def __eq__(self, other):
        raise RuntimeError("compared")

    def __bool__(self):
        raise RuntimeError("asked for its truth")

    def __len__(self):
        raise RuntimeError("measured")

    def __iter__(self):
        raise RuntimeError("walked")


def deep(wanted, word="not", core=YES):
    """A saying of the depth that is wanted, made of a word with one part."""
    saying = core
    for _ in range(wanted - 1):
        saying = (word, saying)
    return saying


def nested_tuples():
    nest = ()
    for _ in range(100000):
        nest = (nest,)
    return nest


def no_tuples():
    """Things of many kinds, none of them a tuple."""
    ring = []
    ring.append(ring)
    return [
        None, True, False, 0, 1, 5, 1.5, "", "a", "yes", "lamp", "abcde", b"yes", [], ["a"], ["yes"], ["lamp", "a"],
        {}, {"a": 1}, {0: "yes"}, {"a"}, frozenset(("yes",)), object(), len, tuple, iter(("yes",)), range(5), ring,
        Untouchable(),
    ]
