import copy
import itertools
import random
import unittest

from leastloss.books import is_book
from leastloss.errors import NoBook, NoMachine, NoText
from leastloss.machines import best_machine, checked_machine
from leastloss.sayings import checked_saying, depth, waiting
from leastloss.texts import book_text, machine_text, read_book, read_machine, read_saying, saying_text
from tests import by_words
from tests.some_machines import BLINK, COPY, LATE, OFF, ON, in_line, no_machines, some_machine
from tests.things import A, B, NO, NO_NAMES, X, Y, YES, Untouchable, book, deep, no_books, odd_things, wide

NAMES = ("a", "b", "x", "y")

SAYINGS = (
    (YES, "yes"),
    (NO, "no"),
    (A, "a"),
    (("lamp", "abcdefgh"), "abcdefgh"),
    (("not", A), "not a"),
    (("before", A), "before a"),
    (("once", A), "once a"),
    (("sofar", A), "sofar a"),
    (("and", A, B), "(a and b)"),
    (("or", A, B), "(a or b)"),
    (("then", A, B), "(a then b)"),
    (("same", A, B), "(a same b)"),
    (("since", A, B), "(a since b)"),
    (("not", YES), "not yes"),
    (("and", YES, NO), "(yes and no)"),
    (("not", ("not", A)), "not not a"),
    (("before", ("once", ("sofar", ("not", A)))), "before once sofar not a"),
    (("not", ("and", A, B)), "not (a and b)"),
    (("and", ("not", A), B), "(not a and b)"),
    (("and", A, ("not", B)), "(a and not b)"),
    (("and", ("and", A, B), X), "((a and b) and x)"),
    (("and", A, ("and", B, X)), "(a and (b and x))"),
    (("or", ("and", A, B), ("then", X, Y)), "((a and b) or (x then y))"),
    (("since", ("once", ("same", A, B)), ("not", ("before", X))), "(once (a same b) since not before x)"),
    (waiting(A, X), "not (not x since (a and not x))"),
    (deep(8), "not not not not not not not yes"),
    (deep(8, "before", A), "before before before before before before before a"),
)

BOOKS = (
    (book(), "foe a\nfriend x\nwish 1 yes\n"),
    (wide(), "foe a b\nfriend x y\nwish 1 yes\n"),
    (book(foe=("a", "b")), "foe a b\nfriend x\nwish 1 yes\n"),
    (book(friend=("y", "x")), "foe a\nfriend y x\nwish 1 yes\n"),
    (book(wishes=((9, X), (10, NO), (99, ("then", A, X)))), "foe a\nfriend x\nwish 9 x\nwish 10 no\nwish 99 (a then x)\n"),
    (book(promises=(A,)), "foe a\nfriend x\npromise a\nwish 1 yes\n"),
    (book(musts=(X,)), "foe a\nfriend x\nmust x\nwish 1 yes\n"),
    (
        book(("ask",), ("give",), (("then", ("before", ("lamp", "give")), ("lamp", "ask")), YES), (NO, YES), ((7, NO),)),
        "foe ask\nfriend give\npromise (before give then ask)\npromise yes\nmust no\nmust yes\nwish 7 no\n",
    ),
    (
        wide((A, B, YES), (X, Y, ("or", X, Y)), ((1, A), (2, B), (3, X), (4, Y), (55, ("once", Y)))),
        "foe a b\nfriend x y\npromise a\npromise b\npromise yes\nmust x\nmust y\nmust (x or y)\n"
        "wish 1 a\nwish 2 b\nwish 3 x\nwish 4 y\nwish 55 once y\n",
    ),
)

F = False
T = True
MACHINES = (
    (book(), COPY, "0>0 1>0\n"),
    (book(), LATE, "0>0 0>1\n1>0 1>1\n"),
    (book(), BLINK, "0>1 0>1\n1>0 1>0\n"),
    (book(friend=("x", "y")), ((((F, T), 0), ((T, F), 0)),), "01>0 10>0\n"),
    (book(foe=("a", "b")), (((OFF, 0), (OFF, 0), (ON, 0), (OFF, 0)),), "0>0 0>0 1>0 0>0\n"),
    (
        wide(), ((((F, F), 1), ((F, T), 0), ((T, F), 1), ((T, T), 0)), (((T, T), 0),) * 4),
        "00>1 01>0 10>1 11>0\n11>0 11>0 11>0 11>0\n",
    ),
    (book(), in_line(11, OFF, ON), "".join(f"0>{place} 0>{place}\n" for place in range(1, 11)) + "1>10 1>10\n"),
    (book(), COPY * 64, "0>0 1>0\n" * 64),
    (book(), (((OFF, 63), (ON, 9)),) * 64, "0>63 1>9\n" * 64),
)


def no_texts():
    """Things of many kinds, none of them a text."""
    return [thing for thing in odd_things() if not isinstance(thing, str)] + [bytearray(b"a"), ("a",), (("lamp", "a"),)]


def odd_texts():
    """Texts that are none of what is written here."""
    return [
        "", " ", "\n", "\n\n", " \n", "\t", "\r\n", "(", ")", "()", "( )", "((", "))", "[a]", "{a}", "-", ">", "0", "1", "00",
        "\0", "\\n", "None", "lamp", "lamp a", "('lamp', 'a')", "foe", "friend", "promise", "must", "wish", "and", "not",
        "(" * 100000, "not " * 100000, "not " * 100000 + "a", "(a and " * 100000, "a" * 100000, "9" * 100000,
        "(" * 100000 + "a" + " and a)" * 100000, "\n" * 100000, "0>0 " * 10000, "\u00e4", "\u0430", "\uff11", "\u00b2",
        "\U0001d41a", "\ud800", "a\u0301", "\u2028",
    ]


def changed_texts(text, signs):
    """All texts with one sign left out, one put in, one for another, or two about."""
    changed = set()
    for place in range(len(text) + 1):
        for sign in signs:
            changed.add(text[:place] + sign + text[place:])
            changed.add(text[:place] + sign + text[place + 1:])
        changed.add(text[:place] + text[place + 1:])
        changed.add(text[:place] + text[place + 1:place + 2] + text[place:place + 1] + text[place + 2:])
    return sorted(changed - {text})


class WriteSayings(unittest.TestCase):
    def test_by_hand(self):
        for saying, text in SAYINGS:
            self.assertEqual(saying_text(saying), text)
            self.assertIs(type(saying_text(saying)), str)

    def test_somewhat_deeper(self):
        self.assertEqual(saying_text(deep(9)), "not " * 8 + "yes")
        self.assertEqual(saying_text(waiting(deep(8), deep(8))).count("not"), 7 * 3 + 3)
        both = A
        for _ in range(12):
            both = ("and", both, B)
        self.assertEqual(saying_text(both), "(" * 12 + "a" + " and b)" * 12)


class ReadSayings(unittest.TestCase):
    def refused(self, text, names=NAMES):
        with self.assertRaises(NoText, msg=text):
            read_saying(names, text)

    def read(self, text, names=NAMES):
        """What is read, None for what is refused; whatever is read is a saying, and written back as the same text."""
        try:
            saying = read_saying(names, text)
        except NoText:
            return None
        self.assertEqual(checked_saying(names, saying), saying)
        self.assertEqual(saying_text(saying), text)
        return saying

    def test_by_hand(self):
        for saying, text in SAYINGS:
            self.assertEqual(read_saying(NAMES + ("abcdefgh",), text), saying)

    def test_all_are_tuples_and_texts(self):
        saying = read_saying(NAMES, "(not a since yes)")
        self.assertEqual((type(saying), type(saying[0]), type(saying[1]), type(saying[1][1])), (tuple, str, tuple, tuple))

    def test_a_blank_more_or_fewer_at_each_place(self):
        for _, text in SAYINGS:
            for place in range(len(text) + 1):
                self.refused(text[:place] + " " + text[place:], NAMES + ("abcdefgh",))
                for sign in ("\n", "\t", "\r", "\u00a0", "\x0b"):
                    self.refused(text[:place] + sign + text[place:], NAMES + ("abcdefgh",))
            for place in [place for place, sign in enumerate(text) if sign == " "]:
                for sign in ("", "  ", "\n", "\t", "\u00a0", "_", "."):
                    self.refused(text[:place] + sign + text[place + 1:], NAMES + ("abcdefgh",))

    def test_brackets(self):
        for text in (
            "(a and b", "a and b)", "a and b", "((a and b)", "(a and b))", "((a and b))", "(a)", "not (a)", "(not a)", "(yes)",
            "[a and b]", "{a and b}", "(a and b]", "<a and b>", ")a and b(", "(a and b and x)", "(a and (b and x)",
            "(a (and b))", "a (and b)", "((a) and b)", "(a and b)(a and b)", "()", "(a and )", "( and b)", "(and)",
        ):
            self.refused(text)
        for _, text in SAYINGS:
            for place in range(len(text) + 1):
                for sign in "()[]{}":
                    self.refused(text[:place] + sign + text[place:])

    def test_words(self):
        for text in (
            "not", "not ", "before", "once", "sofar", "and", "or", "then", "same", "since", "a b", "a and", "and a", "yes no",
            "not a b", "a not", "not a not", "(a b)", "(a not b)", "(a before b)", "(a yes b)", "(a lamp b)", "(a x b)",
            "(and b)", "(a and)", "(a and and b)", "(a and b or)", "(and a b)", "(a b and)", "and (a b)", "lamp a", "lamp",
            "(a implies b)", "nota", "not_a", "yes yes", "true", "(aandb)", "(a andb)", "(aand b)", "(nota and b)",
        ):
            self.refused(text)
        for word in NO_NAMES:
            if word not in ("yes", "no"):
                self.refused(word)
                self.refused("not " + word)
                self.refused(f"({word} and a)")
                self.refused(f"(a and {word})")

    def test_names(self):
        for name in NAMES:
            self.assertEqual(read_saying((name,), name), ("lamp", name))
            self.assertEqual(read_saying((name,), "not " + name), ("not", ("lamp", name)))
        for text in ("c", "aa", "ab", "z", "abcdefghi", "not c", "(a and c)", "(c and a)", "once (a since c)"):
            self.refused(text)
        self.refused("a", ())
        self.refused("b", ("a",))
        self.assertEqual(read_saying((), "not yes"), ("not", YES))
        self.assertEqual(read_saying(("nota", "yesno"), "(nota and yesno)"), ("and", ("lamp", "nota"), ("lamp", "yesno")))
        self.assertEqual(read_saying(("lamp",), "lamp"), ("lamp", "lamp"))

    def test_other_signs(self):
        for text in (
            "A", "Not a", "NOT a", "Yes", "YES", "(a And b)", "a1", "1", "0", "a_", "_", "-a", "a.", "a,", "\u00e4",
            "a\n", "\na", "not a\n", "(a and b)\n", "not\na", "(a\nand b)", "a\0", "\ufeffa", "a\u200b", "'a'", "\"a\"",
        ):
            self.refused(text)

    def test_odd_texts(self):
        for text in odd_texts():
            self.refused(text)

    def test_depth(self):
        for word in ("not", "before", "once", "sofar"):
            self.assertEqual(read_saying(NAMES, f"{word} " * 7 + "a"), deep(8, word, A))
            self.refused(f"{word} " * 8 + "a")
        for word in by_words.WORDS_OF_TWO:
            for size in (7, 8, 9, 300):
                left = "(" * size + "a" + f" {word} b)" * size
                right = f"(a {word} " * size + "b" + ")" * size
                both = "a"
                for _ in range(min(size, 9)):
                    both = f"({both} {word} {both})"
                for text in (left, right, both):
                    if size == 7:
                        self.assertEqual(depth(read_saying(NAMES, text)), 8)
                        self.assertEqual(saying_text(read_saying(NAMES, text)), text)
                    else:
                        self.refused(text)
        self.assertEqual(depth(read_saying(NAMES, "(yes and not not not not not not a)")), 8)
        self.refused("(yes and not not not not not not not a)")
        self.refused("(not not not not not not not yes and a)")

    def test_no_texts(self):
        for thing in no_texts():
            with self.subTest(kind=type(thing).__name__):
                with self.assertRaises(NoText):
                    read_saying(NAMES, thing)

    def test_all_small_sayings(self):
        layers = [YES, A, B]
        for _ in range(2):
            layers = [YES, A, B] + [(word, one) for word in by_words.WORDS_OF_ONE for one in layers[:9]] + [
                (word, one, other) for word in by_words.WORDS_OF_TWO for one in layers[:9] for other in layers[:9]]
        for saying in layers:
            self.assertEqual(read_saying(NAMES, saying_text(saying)), saying)
        self.assertEqual(len({saying_text(saying) for saying in layers}), len(set(layers)))

    def test_drawn_sayings(self):
        draw = random.Random(18)
        for _ in range(2000):
            saying = by_words.some_saying(draw, NAMES, draw.randrange(1, 9))
            self.assertEqual(read_saying(NAMES, saying_text(saying)), saying)

    def test_all_short_texts(self):
        parts = ("(", ")", " ", "a", "not", "and", "yes")
        found = []
        for length in range(7):
            for chosen in itertools.product(parts, repeat=length):
                saying = self.read("".join(chosen))
                if saying is not None:
                    found.append(saying)
        self.assertEqual({depth(saying) for saying in found}, {1, 2, 3})

    def test_changed_texts(self):
        for _, text in SAYINGS:
            for changed in changed_texts(text, "ab ()nA\n"):
                self.read(changed)


class WriteBooks(unittest.TestCase):
    def test_by_hand(self):
        for whole, text in BOOKS:
            self.assertEqual(book_text(whole), text)
            self.assertIs(type(book_text(whole)), str)

    def test_no_book(self):
        for thing in no_books():
            with self.subTest(kind=type(thing).__name__):
                with self.assertRaises(NoBook):
                    book_text(thing)

    def test_lost_books_too(self):
        self.assertEqual(book_text(book(musts=(NO,))), "foe a\nfriend x\nmust no\nwish 1 yes\n")


class ReadBooks(unittest.TestCase):
    def refused(self, text):
        with self.assertRaises(NoText, msg=text):
            read_book(text)

    def read(self, text):
        """Whether a text is read; what is read is a book, and written back as the same text."""
        try:
            whole = read_book(text)
        except NoText:
            return False
        self.assertTrue(is_book(whole))
        self.assertEqual(book_text(whole), text)
        return True

    def test_by_hand(self):
        for whole, text in BOOKS:
            self.assertEqual(read_book(text), whole)

    def test_kinds(self):
        whole = read_book("foe a\nfriend x\npromise a\nmust x\nwish 7 yes\n")
        self.assertEqual([type(part) for part in whole], [tuple] * 5)
        self.assertEqual([type(part) for part in whole[4][0]], [int, tuple])

    def test_prices(self):
        for price in range(1, 100):
            self.assertEqual(read_book(f"foe a\nfriend x\nwish {price} x\n")[4], ((price, X),))
        for price in (
            "0", "00", "01", "09", "010", "001", "100", "101", "110", "999", "1000", "-1", "+1", "- 1", "1.0", "1e1", "1_0",
            "0x1", "", " 1", "1 ", "a", "ten", "x", "\u0661", "\u00b2", "\uff11", "1,0", "9" * 10000, "True", "1\t", "1\n",
        ):
            self.refused(f"foe a\nfriend x\nwish {price} x\n")

    def test_lines(self):
        whole = ["foe a", "friend x", "promise a", "must x", "wish 1 yes", "wish 2 no"]
        self.assertTrue(self.read("".join(line + "\n" for line in whole)))
        for order in itertools.permutations(whole):
            swapped = order[:4] == tuple(whole[:4])
            self.assertEqual(self.read("".join(line + "\n" for line in order)), swapped, order)
        for place in range(len(whole)):
            fewer = whole[:place] + whole[place + 1:]
            self.assertEqual(self.read("".join(line + "\n" for line in fewer)), place >= 2)
        for place in range(len(whole) + 1):
            for line in ("", " ", "a", "yes", "lamp a", "wishes 1 yes", "Wish 1 yes", "foe", "foe b", "friend y", "# a", "\r",
                         "promise", "promise ", "must", "must ", "wish", "wish ", "wish 1", "wish 1 ", "promises a", "mustn x"):
                longer = whole[:place] + [line] + whole[place:]
                self.refused("".join(one + "\n" for one in longer))

    def test_line_ends(self):
        text = "foe a\nfriend x\nwish 1 yes\n"
        for other in (
            text[:-1], text + "\n", "\n" + text, text + " ", text + "\n\n", text.replace("\n", "\r\n"), text.replace("\n", "\r"),
            text.replace("\n", " \n"), text.replace("\n", "\n "), text.replace("\n", ""), text.replace("\n", " "),
            text.replace("\n", "\n\n"), text[:-1] + "\r\n", text[:-1] + "\u2028", text[:-1] + "\x0b", text[:-1] + "\\n",
            text + text, text[:-1] + " " + text,
        ):
            self.refused(other)

    def test_names(self):
        for foe, friend in (
            ("foe a", "friend a"), ("foe a b", "friend b"), ("foe a a", "friend x"), ("foe", "friend x"), ("foe ", "friend x"),
            ("foe a", "friend"), ("foe a", "friend "), ("foe a b c", "friend x"), ("foe a", "friend x y z"),
            ("foe A", "friend x"), ("foe a1", "friend x"), ("foe abcdefghi", "friend x"), ("foe yes", "friend x"),
            ("foe a", "friend wish"), ("foe  a", "friend x"), ("foe a ", "friend x"), (" foe a", "friend x"),
            ("foe a  b", "friend x"), ("foea", "friend x"), ("foe\ta", "friend x"), ("foe a,b", "friend x"),
            ("friend x", "foe a"), ("foe a", "foe x"), ("friend a", "friend x"), ("a", "x"), ("Foe a", "friend x"),
        ):
            self.refused(f"{foe}\n{friend}\nwish 1 yes\n")
        for word in NO_NAMES:
            self.refused(f"foe {word}\nfriend x\nwish 1 yes\n")

    def test_written_as_a_book_but_none(self):
        start = "foe a\nfriend x\n"
        for rest in (
            "", "must x\n", "promise x\nwish 1 yes\n", "promise (before x and x)\nwish 1 yes\n", "wish 1 b\n", "must b\nwish 1 a\n",
            "promise a\n" * 4 + "wish 1 yes\n", "must a\n" * 4 + "wish 1 yes\n", "wish 1 yes\n" * 6,
            "wish 1 " + "not " * 8 + "a\n", "wish 1 before before before before before a\n",
            "promise once a\nmust sofar a\nwish 1 before a\nwish 2 once x\nwish 3 sofar x\n",
        ):
            self.refused(start + rest)
        for rest in (
            "promise before x\nwish 1 yes\n", "promise a\n" * 3 + "must a\n" * 3 + "wish 1 yes\n" * 5,
            "wish 1 " + "not " * 7 + "a\n", "wish 1 before before before before a\n",
            "promise once a\nmust sofar a\nwish 1 before a\nwish 2 once x\nwish 3 once a\n",
        ):
            self.assertTrue(self.read(start + rest), rest)

    def test_sayings(self):
        for saying in ("", " ", "a ", " a", "(a)", "(a and x", "a and x", "A", "not", "b", "and", "not  a", "[a and x]", "a\t"):
            for line in ("promise ", "must ", "wish 1 "):
                wish = "" if line == "wish 1 " else "wish 1 yes\n"
                self.refused(f"foe a\nfriend x\n{line}{saying}\n{wish}")
        for line in ("promise  a", "must  a", "promise\ta", "promisea", "must1 a", "must 1 a", "promise 1 a"):
            self.refused(f"foe a\nfriend x\n{line}\nwish 1 yes\n")
        for line in ("wish a", "wish 1", "wish 1a", "wish 1  a", "wish  1 a", "wish a 1", "wish1 a", "wish 1 1 a"):
            self.refused(f"foe a\nfriend x\n{line}\n")

    def test_odd_texts(self):
        for text in odd_texts() + [text for _, text in SAYINGS] + [text for _, _, text in MACHINES]:
            for other in (text, text + "\n", "foe a\n" + text, "foe a\nfriend x\n" + text, "foe a\nfriend x\n" + text + "\n"):
                self.refused(other)

    def test_no_texts(self):
        for thing in no_texts() + [book(), [BOOKS[0][1]], BOOKS[0][1].encode()]:
            with self.subTest(kind=type(thing).__name__):
                with self.assertRaises(NoText):
                    read_book(thing)

    def test_drawn_books(self):
        for whole in by_words.some_books(400) + by_words.some_moving_books(400):
            if is_book(whole):
                self.assertEqual(read_book(book_text(whole)), whole)

    def test_changed_texts(self):
        read = 0
        for whole, text in BOOKS:
            for changed in changed_texts(text, "a \n01("):
                read += self.read(changed)
        self.assertGreater(read, 20)


class WriteMachines(unittest.TestCase):
    def test_by_hand(self):
        for whole, machine, text in MACHINES:
            self.assertEqual(machine_text(whole, machine), text)
            self.assertIs(type(machine_text(whole, machine)), str)

    def test_no_machine(self):
        for machine in no_machines():
            with self.assertRaises(NoMachine):
                machine_text(book(), machine)
        with self.assertRaises(NoMachine):
            machine_text(wide(), COPY)

    def test_no_book(self):
        for thing in no_books():
            with self.subTest(kind=type(thing).__name__):
                for machine in (COPY, (), None, Untouchable()):
                    with self.assertRaises(NoBook):
                        machine_text(thing, machine)


class ReadMachines(unittest.TestCase):
    def refused(self, text, whole=book()):
        with self.assertRaises(NoText, msg=text):
            read_machine(whole, text)

    def read(self, whole, text):
        """Whether a text is read; what is read is a machine, and written back as the same text."""
        try:
            machine = read_machine(whole, text)
        except NoText:
            return False
        self.assertEqual(checked_machine(whole, machine), machine)
        self.assertEqual(machine_text(whole, machine), text)
        return True

    def test_by_hand(self):
        for whole, machine, text in MACHINES:
            self.assertEqual(read_machine(whole, text), machine)

    def test_kinds(self):
        machine = read_machine(book(), "0>0 1>0\n")
        self.assertEqual((type(machine), type(machine[0]), type(machine[0][0])), (tuple, tuple, tuple))
        self.assertEqual([type(part) for part in machine[0][0]], [tuple, int])
        self.assertEqual([type(part) for part in machine[0][0][0]], [bool])

    def test_how_many_stands(self):
        for stands in (1, 2, 9, 10, 11, 63, 64):
            text = f"0>{stands - 1} 1>0\n" * stands
            self.assertEqual(read_machine(book(), text), (((OFF, stands - 1), (ON, 0)),) * stands)
            self.refused(f"0>{stands} 1>0\n" * stands)
            self.refused(f"0>0 1>{stands + 1}\n" * stands)
        for stands in (0, 65, 66, 1000):
            self.refused("0>0 1>0\n" * stands)

    def test_numbers(self):
        for number in (
            "00", "01", "001", "2", "10", "64", "99", "100", "-1", "-0", "+0", "+1", "", " 0", "0 ", "0.0", "a", "x", "0x0", "1_0",
            "\u0660", "\uff10", "\u00b2", "0" * 10000, "9" * 10000, "True", "0\t", "0>0", ">0", "0>",
        ):
            self.refused(f"0>{number} 1>0\n" * 2)
            self.refused(f"0>0 1>{number}\n" * 2)
        eleven = "0>0 1>0\n" * 10
        self.assertTrue(self.read(book(), eleven + "0>10 1>9\n"))
        for number in ("010", "09", "11", "00"):
            self.refused(eleven + f"0>{number} 1>0\n")

    def test_lamps(self):
        for lamps in ("", "2", "00", "01", "T", "F", "true", "-", " 0", "0 ", "\u0661", "O", "l", "True", "o", "(0)", "1,"):
            self.refused(f"{lamps}>0 1>0\n")
            self.refused(f"0>0 {lamps}>0\n")
        for lamps in ("0", "000", "0 0", "02", "a0", "1", "0,1"):
            self.refused(f"{lamps}>0 00>0 00>0 00>0\n", wide())
            self.refused(f"00>0 00>0 00>0 {lamps}>0\n", wide())

    def test_ways(self):
        for text in (
            "0>0\n", "0>0 1>0 0>0\n", "0>0 1>0 0>0 1>0\n", "\n", "0>0 \n", " 0>0\n", "0>0  1>0\n", " 0>0 1>0\n", "0>0 1>0 \n",
            "0>01>0\n", "0>0\t1>0\n", "0>0,1>0\n", "0 0 1 0\n", "00 10\n", "0<0 1<0\n", "0->0 1->0\n", "0>>0 1>>0\n", "0> 0 1> 0\n",
            "0 >0 1 >0\n", "0=0 1=0\n", "0:0 1:0\n", "(0>0 1>0)\n", "0>0 1>0>0\n", "> >\n", ">0 >0\n", "0> 1>\n", "0 1\n",
        ):
            self.refused(text)
        self.refused("0>0 1>0\n", wide())
        self.refused("00>0 00>0\n", wide())
        self.refused("00>0 00>0 00>0\n", wide())
        self.refused("00>0 00>0 00>0 00>0 00>0\n", wide())
        self.refused("0>0 0>0 0>0 0>0\n", wide())

    def test_line_ends(self):
        for text in ("0>0 1>0\n", "0>0 0>1\n1>0 1>1\n"):
            for other in (
                text[:-1], text + "\n", "\n" + text, text + " ", " " + text, text.replace("\n", "\r\n"), text.replace("\n", " "),
                text.replace("\n", "\n\n"), text.replace("\n", ""), text.replace("\n", "\r"), text.replace("\n", " \n"),
                text[:-1] + "\u2028", text[:-1] + "\x0b", text[:-1] + "\\n", "stand " + text,
            ):
                self.refused(other)

    def test_odd_texts(self):
        for text in odd_texts() + [text for _, text in SAYINGS] + [text for _, text in BOOKS]:
            for other in (text, text + "\n", "0>0 1>0\n" + (text or "\n")):
                self.refused(other)
                self.refused(other, wide())

    def test_no_texts(self):
        for thing in no_texts() + [COPY, ["0>0 1>0\n"], b"0>0 1>0\n"]:
            with self.subTest(kind=type(thing).__name__):
                with self.assertRaises(NoText):
                    read_machine(book(), thing)

    def test_no_book_ahead(self):
        for thing in no_books():
            with self.subTest(kind=type(thing).__name__):
                for text in ("0>0 1>0\n", "", None, Untouchable()):
                    with self.assertRaises(NoBook):
                        read_machine(thing, text)

    def test_drawn_machines(self):
        draw = random.Random(19)
        for whole in by_words.some_books(200):
            if is_book(whole):
                for most in (1, 3, 64):
                    machine = some_machine(draw, whole, most)
                    self.assertEqual(read_machine(whole, machine_text(whole, machine)), machine)
        whole = book(wishes=((3, ("same", X, ("before", A))),))
        self.assertEqual(machine_text(whole, best_machine(whole)), "0>0 0>1\n1>0 1>1\n")

    def test_changed_texts(self):
        read = 0
        for whole, machine, text in MACHINES[:7]:
            for changed in changed_texts(text, "0123> \n-"):
                read += self.read(whole, changed)
        self.assertGreater(read, 20)


class Kinds(unittest.TestCase):
    def test_what_was_handed_in_is_as_before(self):
        whole = book(promises=(A,), musts=(X,), wishes=((5, waiting(A, X)),))
        kept = copy.deepcopy(whole)
        machine = LATE * 2
        self.assertEqual(book_text(whole), book_text(kept))
        self.assertEqual(read_book(book_text(whole)), kept)
        self.assertEqual(read_machine(whole, machine_text(whole, machine)), copy.deepcopy(LATE * 2))
        self.assertEqual(saying_text(whole[4][0][1]), saying_text(kept[4][0][1]))
        self.assertEqual((whole, machine), (kept, LATE * 2))


if __name__ == "__main__":
    unittest.main()
