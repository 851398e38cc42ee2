"""Texts: sayings, books and machines, written down and read back."""

from leastloss.books import checked, is_book
from leastloss.errors import NoText
from leastloss.machines import checked_machine, is_machine
from leastloss.sayings import DEEPEST, LETTERS, SAYINGS_WITHIN, is_saying

DIGITS = "0123456789"
MOST_DIGITS = 2


def saying_text(saying):
    """The text of a saying."""
    written = []
    # The next one to write stands last: a saying, or what is written about the sayings within one.
    ahead = [saying]
    while ahead:
        part = ahead.pop()
        if isinstance(part, str):
            written.append(part)
        elif part[0] == "lamp":
            written.append(part[1])
        elif len(part) == 1:
            written.append(part[0])
        elif len(part) == 2:
            ahead.extend([part[1], part[0] + " "])
        else:
            ahead.extend([")", part[2], " " + part[0] + " ", part[1], "("])
    return "".join(written)


class Reader:
    """A text, and how far it is read."""

    def __init__(self, text):
        self.text = text
        self.at = 0

    def goes_past(self, sign):
        """Goes past this sign, if it is the next one; whether it is."""
        if not self.text.startswith(sign, self.at):
            return False
        self.at = self.at + 1
        return True

    def needs(self, sign):
        """Goes past this sign, if it is the next one, else NoText."""
        if not self.goes_past(sign):
            raise NoText("another sign was asked for")

    def word_here(self):
        """Goes past all letters up to the next other sign, and tells them."""
        start = self.at
        while self.at < len(self.text) and self.text[self.at] in LETTERS:
            self.at = self.at + 1
        return self.text[start:self.at]


def joined_saying(reader, deepest):
    """What stands behind a bracket: two sayings of at most this depth and the word between them, else NoText."""
    first = next_saying(reader, deepest)
    reader.needs(" ")
    word = reader.word_here()
    reader.needs(" ")
    second = next_saying(reader, deepest)
    reader.needs(")")
    return (word, first, second)


def next_saying(reader, deepest):
    """What is written next, of at most this depth, as a saying is written, else NoText.

    Whether the words and names in it are those of a saying is not asked here.
    """
    # Going no deeper, this ends for texts of any depth.
    if deepest < 1:
        raise NoText("too deep")
    if reader.goes_past("("):
        return joined_saying(reader, deepest - 1)
    word = reader.word_here()
    if SAYINGS_WITHIN.get(word) == 0:
        return (word,)
    if SAYINGS_WITHIN.get(word) == 1:
        reader.needs(" ")
        return (word, next_saying(reader, deepest - 1))
    return ("lamp", word)


def whole_saying(text):
    """All of a text, as a saying is written, else NoText. Whether it is a saying is not asked here."""
    reader = Reader(text)
    saying = next_saying(reader, DEEPEST)
    if reader.at < len(text):
        raise NoText("more than a saying")
    return saying


def checked_text(thing):
    """The thing of any kind, if it is a text, else NoText."""
    if not isinstance(thing, str):
        raise NoText("no text")
    return thing


def read_saying(names, text):
    """The saying over these names that is written so, else NoText."""
    saying = whole_saying(checked_text(text))
    if not is_saying(names, saying):
        raise NoText("no saying over these names")
    return saying


def lines_text(lines):
    """The text of these lines, each ended by a line end."""
    return "".join([line + "\n" for line in lines])


def lines_in(thing):
    """The lines of a text, each ended by a line end; for things of any kind else NoText."""
    if not checked_text(thing).endswith("\n"):
        raise NoText("the last line has no end")
    return thing[:-1].split("\n")


def number_in(text):
    """The number of at most so many digits as are needed here, else NoText."""
    if not 1 <= len(text) <= MOST_DIGITS or not all([sign in DIGITS for sign in text]):
        raise NoText("no such number")
    return int(text)


def written_book(book):
    """The text of what is known to be a book."""
    lines = [" ".join(("foe",) + book[0]), " ".join(("friend",) + book[1])]
    lines.extend(["promise " + saying_text(saying) for saying in book[2]])
    lines.extend(["must " + saying_text(saying) for saying in book[3]])
    lines.extend(["wish " + str(price) + " " + saying_text(saying) for price, saying in book[4]])
    return lines_text(lines)


def book_text(book):
    """The text of a book, else NoBook."""
    return written_book(checked(book))


def behind_word(word, lines):
    """What stands behind this word in those lines that begin with it."""
    return [line[len(word) + 1:] for line in lines if line.startswith(word + " ")]


def names_in(word, lines):
    """What stands behind this word in those lines that begin with it, parted at blanks."""
    return tuple(" ".join(behind_word(word, lines)).split(" "))


def wish_in(text):
    """The wish of a price and a saying, else NoText."""
    parts = text.partition(" ")
    return (number_in(parts[0]), whole_saying(parts[2]))


def read_book(text):
    """The book that is written so, else NoText."""
    lines = lines_in(text)
    promises = tuple([whole_saying(part) for part in behind_word("promise", lines)])
    musts = tuple([whole_saying(part) for part in behind_word("must", lines)])
    wishes = tuple([wish_in(part) for part in behind_word("wish", lines)])
    book = (names_in("foe", lines), names_in("friend", lines), promises, musts, wishes)
    # Other lines, lines in another order and other ways to write a number show in that they are not written again.
    if not is_book(book) or written_book(book) != text:
        raise NoText("no book is written so")
    return book


def lamps_text(setting):
    """The lamps of a setting, written down."""
    return "".join(["1" if lamp else "0" for lamp in setting])


def stand_line(stand):
    """The line of a stand."""
    return " ".join([lamps_text(friend) + ">" + str(number) for friend, number in stand])


def written_machine(machine):
    """The text of what is known to be a machine."""
    return lines_text([stand_line(stand) for stand in machine])


def machine_text(book, machine):
    """The text of a machine for this book, else NoBook or NoMachine."""
    return written_machine(checked_machine(book, machine))


def way_in(text):
    """The way of a friend's setting and a stand, else NoText."""
    parts = text.partition(">")
    return (tuple([sign == "1" for sign in parts[0]]), number_in(parts[2]))


def stand_in(line):
    """The stand of a line, else NoText."""
    return tuple([way_in(part) for part in line.split(" ")])


def read_machine(book, text):
    """The machine for this book that is written so, else NoBook or NoText."""
    checked(book)
    machine = tuple([stand_in(line) for line in lines_in(text)])
    # Other signs for a lamp and other ways to write a number show in that they are not written again.
    if not is_machine(book, machine) or written_machine(machine) != text:
        raise NoText("no machine for this book is written so")
    return machine
