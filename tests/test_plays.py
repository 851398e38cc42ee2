import copy
import itertools
import random
import unittest

from leastloss.errors import NoBook, NoPlay, NoSaying
from leastloss.plays import first_breaks, holds, losses
from leastloss.sayings import waiting
from tests import by_words
from tests.things import A, B, NO, X, Y, YES, Untouchable, book, deep, no_books, no_plays, odd_things, wide

T = True
F = False
PLAIN = book()
WIDE = wide()


def play_of(*rows):
    """A play from a row of 1 and 0 for each lamp: the first sign of each row is the first turn."""
    return [tuple(sign == "1" for sign in turn) for turn in zip(*rows)]


def told(saying, *rows):
    """Whether a saying over a and x, or over a, b, x and y, holds at each turn, as a row of 1 and 0."""
    whole = PLAIN if len(rows) == 2 else WIDE
    play = play_of(*rows)
    return "".join("1" if holds(whole, saying, play[:turn + 1]) else "0" for turn in range(len(play)))


class Kinds(unittest.TestCase):
    """[3]: each of the twelve kinds, at the first turn and at later ones."""

    def test_yes_and_no(self):
        self.assertEqual(told(YES, "0110", "0101"), "1111")
        self.assertEqual(told(NO, "0110", "0101"), "0000")

    def test_lamps_by_their_places(self):
        self.assertEqual(told(A, "0110", "0011"), "0110")
        self.assertEqual(told(X, "0110", "0011"), "0011")
        rows = ("1000", "0100", "0010", "0001")
        for lamp, row in zip((A, B, X, Y), rows):
            with self.subTest(lamp=lamp):
                self.assertEqual(told(lamp, *rows), row)

    def test_the_foes_lamps_come_ahead_whatever_their_names(self):
        turned = book(foe=("z",), friend=("c",))
        self.assertIs(holds(turned, ("lamp", "z"), [(T, F)]), True)
        self.assertIs(holds(turned, ("lamp", "c"), [(T, F)]), False)
        uneven = book(foe=("z",), friend=("c", "a"))
        self.assertIs(holds(uneven, ("lamp", "c"), [(F, T, F)]), True)
        self.assertIs(holds(uneven, ("lamp", "a"), [(F, T, F)]), False)

    def test_not(self):
        self.assertEqual(told(("not", A), "0110", "0000"), "1001")

    def test_the_kinds_with_two_parts_of_one_turn(self):
        rows = ("001100", "010101")
        self.assertEqual(told(("and", A, X), *rows), "000100")
        self.assertEqual(told(("or", A, X), *rows), "011101")
        self.assertEqual(told(("then", A, X), *rows), "110111")
        self.assertEqual(told(("then", X, A), *rows), "101110")
        self.assertEqual(told(("same", A, X), *rows), "100110")

    def test_before(self):
        self.assertEqual(told(("before", A), "1", "0"), "0")
        self.assertEqual(told(("before", YES), "000", "000"), "011")
        self.assertEqual(told(("before", A), "101100", "000000"), "010110")
        self.assertEqual(told(("before", A), "010011", "111111"), "001001")
        self.assertEqual(told(("before", ("not", A)), "0010", "0000"), "0110")
        self.assertEqual(told(("not", ("before", A)), "1010", "0000"), "1010")

    def test_once(self):
        self.assertEqual(told(("once", A), "1000", "0000"), "1111")
        self.assertEqual(told(("once", A), "0100", "0000"), "0111")
        self.assertEqual(told(("once", A), "0001", "0000"), "0001")
        self.assertEqual(told(("once", A), "0000", "1111"), "0000")
        self.assertEqual(told(("once", A), "1", "0"), "1")
        self.assertEqual(told(("once", A), "0", "0"), "0")

    def test_sofar(self):
        self.assertEqual(told(("sofar", A), "1111", "0000"), "1111")
        self.assertEqual(told(("sofar", A), "0111", "0000"), "0000")
        self.assertEqual(told(("sofar", A), "1011", "0000"), "1000")
        self.assertEqual(told(("sofar", A), "1110", "0000"), "1110")
        self.assertEqual(told(("sofar", A), "0000", "1111"), "0000")
        self.assertEqual(told(("sofar", A), "1", "0"), "1")
        self.assertEqual(told(("sofar", A), "0", "0"), "0")

    def test_since(self):
        since = ("since", A, X)
        self.assertEqual(told(since, "0", "1"), "1")
        self.assertEqual(told(since, "1", "0"), "0")
        self.assertEqual(told(since, "0111", "1000"), "1111")
        self.assertEqual(told(since, "0000", "1000"), "1000")
        self.assertEqual(told(since, "0110", "1000"), "1110")
        self.assertEqual(told(since, "0101", "1000"), "1100")
        self.assertEqual(told(since, "1111", "0100"), "0111")
        self.assertEqual(told(since, "0000", "0001"), "0001")
        self.assertEqual(told(since, "1111", "0000"), "0000")
        self.assertEqual(told(since, "0000", "1111"), "1111")

    def test_since_where_its_second_part_holds_again_later(self):
        since = ("since", A, X)
        self.assertEqual(told(since, "0001", "1010"), "1011")
        self.assertEqual(told(since, "011001", "100010"), "111011")
        self.assertEqual(told(since, "111111", "101000"), "111111")

    def test_the_parts_of_since_are_not_taken_for_one_another(self):
        self.assertEqual(told(("since", X, A), "1000", "0110"), "1110")
        self.assertEqual(told(("since", A, X), "1000", "0110"), "0110")

    def test_pieces_within_pieces(self):
        self.assertEqual(told(("before", ("before", A)), "10110", "00000"), "00101")
        self.assertEqual(told(("before", ("once", A)), "01000", "00000"), "00111")
        self.assertEqual(told(("once", ("before", A)), "01000", "00000"), "00111")
        self.assertEqual(told(("before", ("sofar", A)), "11011", "00000"), "01100")
        self.assertEqual(told(("sofar", ("not", ("before", A))), "00100", "00000"), "11100")
        self.assertEqual(told(("sofar", ("once", A)), "1000", "0000"), "1111")
        self.assertEqual(told(("once", ("sofar", A)), "1000", "0000"), "1111")
        self.assertEqual(told(("once", ("and", A, ("before", X))), "01010", "00100"), "00011")
        self.assertEqual(told(("since", ("before", A), ("once", X)), "0000", "0100"), "0111")
        self.assertEqual(told(("since", ("before", A), ("before", X)), "01100", "10000"), "01110")
        self.assertEqual(told(("before", ("since", A, X)), "01101", "10000"), "01110")

    def test_the_same_piece_twice(self):
        piece = ("once", A)
        self.assertEqual(told(("and", piece, ("not", ("before", piece))), "00101", "00000"), "00100")
        self.assertEqual(told(("same", piece, piece), "00101", "00000"), "11111")

    def test_pieces_that_are_none_of_the_book(self):
        whole = book(musts=(("once", X),), wishes=((1, ("sofar", A)),))
        self.assertIs(holds(whole, ("before", X), [(F, T), (F, F)]), True)
        self.assertIs(holds(whole, ("once", A), [(T, F), (F, F)]), True)
        self.assertIs(holds(whole, ("sofar", A), [(T, F), (F, F)]), False)

    def test_more_pieces_than_a_book_may_have(self):
        saying = YES
        for lamp in (A, X, ("not", A), ("not", X), ("and", A, X), ("or", A, X)):
            saying = ("and", ("once", lamp), saying)
        self.assertEqual(told(saying, "0101", "0011"), "0001")

    def test_what_is_broken_does_not_end_a_play(self):
        whole = book(promises=(NO,), musts=(NO,))
        self.assertIs(holds(whole, ("before", A), [(T, F), (F, F)]), True)


class ByTheWords(unittest.TestCase):
    def test_true_or_false_alone_is_told(self):
        for saying in [YES, NO, A, X] + [(word, A) for word in by_words.WORDS_OF_ONE]:
            for turns in (1, 2, 3):
                for setting in by_words.settings("ax"):
                    self.assertIsInstance(holds(PLAIN, saying, [setting] * turns), bool)
        for word in by_words.WORDS_OF_TWO:
            for play in itertools.product(by_words.settings("ax"), repeat=2):
                self.assertIsInstance(holds(PLAIN, (word, A, X), list(play)), bool)

    def test_each_kind_within_each_in_all_short_plays(self):
        inner = [YES, A, X] + [(word, A) for word in by_words.WORDS_OF_ONE]
        inner += [(word, A, X) for word in by_words.WORDS_OF_TWO]
        sayings = [(word, one) for word in by_words.WORDS_OF_ONE for one in inner]
        sayings += [(word, one, X) for word in by_words.WORDS_OF_TWO for one in inner]
        sayings += [(word, X, one) for word in by_words.WORDS_OF_TWO for one in inner]
        plays = [list(play) for turns in (1, 2, 3) for play in itertools.product(by_words.settings("ax"), repeat=turns)]
        for saying in sayings:
            for play in plays:
                self.assertIs(
                    holds(PLAIN, saying, play), by_words.so(("a", "x"), saying, play, len(play) - 1), (saying, play))

    def test_deeper_sayings_in_longer_plays(self):
        draw = random.Random(3)
        names = ("a", "b", "x", "y")
        for _ in range(300):
            saying = by_words.some_saying(draw, names, 5)
            play = [draw.choice(by_words.settings(names)) for _ in range(7)]
            for turn in range(len(play)):
                self.assertIs(
                    holds(WIDE, saying, play[:turn + 1]), by_words.so(names, saying, play, turn), (saying, play))

    def test_the_greatest_depth(self):
        self.assertIs(holds(PLAIN, deep(8, "before", A), [(T, F)] + [(F, F)] * 7), True)
        self.assertIs(holds(PLAIN, deep(8, "before", A), [(T, F)] + [(F, F)] * 6), False)
        self.assertIs(holds(PLAIN, deep(8, "before", A), [(T, F)] + [(F, F)] * 8), False)

    def test_a_long_play(self):
        self.assertIs(holds(PLAIN, ("once", A), [(T, F)] + [(F, F)] * 20000), True)
        self.assertIs(holds(PLAIN, ("sofar", A), [(T, F)] * 20000), True)
        self.assertIs(holds(PLAIN, ("sofar", A), [(F, F)] + [(T, F)] * 20000), False)
        self.assertIs(holds(PLAIN, ("since", A, X), [(F, T)] + [(T, F)] * 20000), True)


class Waiting(unittest.TestCase):
    """[4]: where the waiting saying for a and x holds."""

    def told(self, r, g):
        return told(waiting(A, X), r, g)

    def test_at_one_turn(self):
        self.assertEqual(self.told("1", "1"), "1")
        self.assertEqual(self.told("0101", "0101"), "1111")

    def test_g_later(self):
        self.assertEqual(self.told("1000", "0001"), "0001")
        self.assertEqual(self.told("0100", "0010"), "1011")

    def test_g_never(self):
        self.assertEqual(self.told("0100", "0000"), "1000")
        self.assertEqual(self.told("1111", "0000"), "0000")

    def test_g_ahead_of_r_does_not_help(self):
        self.assertEqual(self.told("0010", "1100"), "1100")

    def test_r_again_behind_a_g(self):
        self.assertEqual(self.told("10010", "01000"), "01100")
        self.assertEqual(self.told("10010", "01001"), "01101")

    def test_r_twice_ahead_of_one_g(self):
        self.assertEqual(self.told("1100", "0010"), "0011")

    def test_no_r(self):
        self.assertEqual(self.told("0000", "0000"), "1111")
        self.assertEqual(self.told("0000", "0110"), "1111")

    def test_by_the_words_in_all_short_plays(self):
        saying = waiting(A, X)
        for turns in (1, 2, 3, 4):
            for play in itertools.product(by_words.settings("ax"), repeat=turns):
                waits = any(r and not any(later[1] for later in play[at:]) for at, (r, g) in enumerate(play))
                self.assertIs(holds(PLAIN, saying, list(play)), not waits, play)

    def test_for_sayings_of_time(self):
        saying = waiting(("before", A), ("and", X, ("before", X)))
        self.assertEqual(told(saying, "10000", "01110"), "10111")


class Losses(unittest.TestCase):
    def test_an_empty_play(self):
        self.assertEqual(losses(PLAIN, []), [])
        self.assertEqual(losses(book(wishes=((99, NO),)), []), [])

    def test_one_wish(self):
        whole = book(wishes=((7, X),))
        self.assertEqual(losses(whole, play_of("0101", "0011")), [7, 7, 0, 0])
        self.assertEqual(losses(book(wishes=((99, NO),)), play_of("00", "00")), [99, 99])
        self.assertEqual(losses(book(wishes=((1, YES),)), play_of("00", "00")), [0, 0])

    def test_several_wishes(self):
        whole = book(wishes=((1, A), (10, X), (40, ("same", A, X))))
        self.assertEqual(losses(whole, play_of("0101", "0011")), [11, 50, 41, 0])

    def test_five_wishes_and_the_same_one_twice(self):
        whole = book(wishes=((1, X), (2, X), (4, A), (8, A), (16, NO)))
        self.assertEqual(losses(whole, play_of("0101", "0011")), [31, 19, 28, 16])
        self.assertEqual(losses(book(wishes=((99, NO),) * 5), [(F, F)]), [495])
        self.assertEqual(losses(book(wishes=((5, X), (5, X))), [(F, F), (F, T)]), [10, 0])

    def test_wishes_of_time(self):
        whole = book(wishes=((3, ("before", A)), (5, ("once", X)), (20, ("sofar", ("not", X))), (70, waiting(A, X))))
        self.assertEqual(losses(whole, play_of("01100", "00010")), [8, 78, 75, 20, 23])

    def test_a_turn_is_told_by_the_turns_up_to_it(self):
        whole = book(wishes=((3, ("once", A)), (8, ("since", A, X))))
        play = play_of("0110100", "1000110")
        for turns in range(len(play) + 1):
            self.assertEqual(losses(whole, play[:turns]), losses(whole, play)[:turns])

    def test_promises_and_musts_cost_nothing(self):
        whole = book(promises=(NO,), musts=(NO,), wishes=((3, X),))
        self.assertEqual(losses(whole, play_of("011", "010")), [3, 0, 3])

    def test_numbers_are_told(self):
        for number in losses(book(wishes=((1, X), (1, A))), play_of("0101", "0011")):
            self.assertIs(type(number), int)


class FirstBreaks(unittest.TestCase):
    def breaks(self, promises, musts, *rows):
        self.assertIs(type(first_breaks(book(promises=promises, musts=musts), play_of(*rows))), tuple)
        return first_breaks(book(promises=promises, musts=musts), play_of(*rows))

    def test_an_empty_play(self):
        self.assertEqual(first_breaks(book(promises=(NO,), musts=(NO,)), []), (None, None))

    def test_no_break(self):
        self.assertEqual(self.breaks((), (), "0101", "0011"), (None, None))
        self.assertEqual(self.breaks((A,), (X,), "111", "111"), (None, None))

    def test_one_side_alone(self):
        self.assertEqual(self.breaks((A,), (X,), "110", "111"), (2, None))
        self.assertEqual(self.breaks((A,), (X,), "111", "101"), (None, 1))

    def test_at_the_first_turn(self):
        self.assertEqual(self.breaks((A,), (X,), "0", "1"), (0, None))
        self.assertEqual(self.breaks((A,), (X,), "1", "0"), (None, 0))
        self.assertEqual(self.breaks((NO,), (NO,), "1", "0"), (0, 0))

    def test_a_promise_ahead_of_a_must_and_the_other_way_round(self):
        self.assertEqual(self.breaks((A,), (X,), "1011", "1110"), (1, 3))
        self.assertEqual(self.breaks((A,), (X,), "1110", "1011"), (3, 1))

    def test_both_at_one_turn(self):
        self.assertEqual(self.breaks((A,), (X,), "1101", "1101"), (2, 2))

    def test_the_first_of_several_turns(self):
        self.assertEqual(self.breaks((A,), (X,), "10010", "11000"), (1, 2))

    def test_any_of_several(self):
        self.assertEqual(self.breaks((YES, A, YES), (YES, YES, X), "1101", "1011"), (2, 1))
        self.assertEqual(self.breaks((A, YES, YES), (X, YES, YES), "1101", "1011"), (2, 1))
        self.assertEqual(self.breaks((YES, YES, A), (YES, X, YES), "1101", "1011"), (2, 1))
        self.assertEqual(self.breaks((("once", A), ("before", X)), (), "01", "11"), (0, None))

    def test_sayings_of_time(self):
        promise = ("then", ("before", X), ("not", A))
        must = ("not", ("and", X, ("before", X)))
        self.assertEqual(self.breaks((promise,), (must,), "10110", "01011"), (2, 4))
        self.assertEqual(self.breaks((promise,), (must,), "11111", "01000"), (2, None))

    def test_wishes_are_no_musts(self):
        whole = book(wishes=((9, NO),))
        self.assertEqual(first_breaks(whole, play_of("010", "001")), (None, None))

    def test_with_two_lamps_on_a_side(self):
        whole = wide(promises=(("or", A, B),), musts=(("or", X, Y),))
        self.assertEqual(first_breaks(whole, play_of("1000", "0100", "1000", "0110")), (2, 3))


class ManyBooks(unittest.TestCase):
    def test_losses_and_breaks_by_the_words(self):
        draw = random.Random(4)
        for whole in by_words.some_books(200):
            play = [draw.choice(by_words.settings(whole[0] + whole[1])) for _ in range(6)]
            try:
                told_losses = losses(whole, play)
            except NoBook:
                continue
            ups = [play[:turn + 1] for turn in range(len(play))]
            self.assertEqual(told_losses, [by_words.loss(whole, up) for up in ups])
            broken = [[turn for turn, up in enumerate(ups) if not by_words.keeps(whole, whole[side], up)]
                      for side in (2, 3)]
            self.assertEqual(first_breaks(whole, play), tuple(turns[0] if turns else None for turns in broken))


class Refusals(unittest.TestCase):
    def test_no_book(self):
        for thing in no_books():
            with self.subTest(kind=type(thing).__name__):
                for saying, play in ((A, [(T, T)]), (("maybe",), [(T, T)]), (A, None), (None, Untouchable())):
                    with self.assertRaises(NoBook):
                        holds(thing, saying, play)
                    with self.assertRaises(NoBook):
                        first_breaks(thing, play)
                    with self.assertRaises(NoBook):
                        losses(thing, play)

    def test_no_saying(self):
        bad_sayings = odd_things() + [
            (), ("maybe",), ["lamp", "a"], ("lamp", "b"), ("not", B), ("lamp", "a", "x"), ("not",), ("and", A),
            deep(9), deep(9, "once", A), deep(100000), ("before", ["lamp", "a"]), waiting(deep(6), A),
        ]
        for thing in bad_sayings:
            with self.subTest(kind=type(thing).__name__):
                for play in ([(T, T)], [], None, [(T,)], [(1, 0)], Untouchable()):
                    with self.assertRaises(NoSaying):
                        holds(PLAIN, thing, play)

    def test_a_saying_over_the_names_of_another_book(self):
        self.assertIs(holds(WIDE, ("or", B, Y), [(F, T, F, F)]), True)
        for lamp in (B, Y, ("lamp", "c")):
            with self.assertRaises(NoSaying):
                holds(PLAIN, lamp, [(T, T)])

    def test_no_play(self):
        for whole in (PLAIN, WIDE, book(friend=("x", "y"))):
            for thing in no_plays(len(whole[0] + whole[1])):
                with self.subTest(kind=type(thing).__name__):
                    with self.assertRaises(NoPlay):
                        holds(whole, A, thing)
                    with self.assertRaises(NoPlay):
                        first_breaks(whole, thing)
                    with self.assertRaises(NoPlay):
                        losses(whole, thing)

    def test_holds_asks_for_a_turn(self):
        for saying in (YES, NO, A, ("sofar", A)):
            with self.assertRaises(NoPlay):
                holds(PLAIN, saying, [])

    def test_settings_of_another_book(self):
        for settings in ((T,), (T, T, T), (T, T, T, T)):
            with self.assertRaises(NoPlay):
                losses(PLAIN, [settings])
            with self.assertRaises(NoPlay):
                losses(PLAIN, [(T, T), settings])
        self.assertEqual(losses(WIDE, [(T, T, T, T)]), [0])
        with self.assertRaises(NoPlay):
            losses(WIDE, [(T, T)])


class NothingKept(unittest.TestCase):
    WHOLE = book(promises=(("before", X),), musts=(("once", A),), wishes=((2, ("before", X)), (3, A)))

    def test_what_was_handed_in_is_as_before(self):
        play = play_of("0110", "1010")
        whole = copy.deepcopy(self.WHOLE)
        before = copy.deepcopy(play)
        holds(whole, ("since", A, X), play)
        first_breaks(whole, play)
        losses(whole, play)
        self.assertEqual(play, before)
        self.assertEqual(whole, self.WHOLE)
        bad = [(T, T), (1, T), [T, T]]
        for ask in (lambda: holds(whole, A, bad), lambda: first_breaks(whole, bad), lambda: losses(whole, bad)):
            with self.assertRaises(NoPlay):
                ask()
        self.assertEqual(repr(bad), "[(True, True), (1, True), [True, True]]")

    def test_a_new_list_each_time(self):
        play = play_of("0110", "1010")
        first = losses(self.WHOLE, play)
        second = losses(self.WHOLE, play)
        self.assertEqual(first, second)
        self.assertIsNot(first, second)
        self.assertIsNot(first, play)
        first.append(7)
        first[0] = None
        self.assertEqual(losses(self.WHOLE, play), second)
        empty = []
        told_of_empty = losses(self.WHOLE, empty)
        told_of_empty.append(1)
        self.assertEqual(empty, [])
        self.assertEqual(losses(self.WHOLE, []), [])

    def test_a_play_that_was_made_longer_is_asked_anew(self):
        play = play_of("01", "10")
        self.assertIs(holds(self.WHOLE, ("once", ("and", A, X)), play), False)
        play.append((T, T))
        self.assertIs(holds(self.WHOLE, ("once", ("and", A, X)), play), True)
        self.assertEqual(len(losses(self.WHOLE, play)), 3)

    def test_equal_things_give_equal_answers(self):
        play = play_of("0110", "1010")
        for _ in range(2):
            self.assertEqual(losses(copy.deepcopy(self.WHOLE), list(play)), losses(self.WHOLE, play))
            self.assertEqual(first_breaks(copy.deepcopy(self.WHOLE), list(play)), first_breaks(self.WHOLE, play))
            with self.assertRaises(NoPlay):
                losses(self.WHOLE, [(T, 1)])


if __name__ == "__main__":
    unittest.main()
