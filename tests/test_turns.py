import copy
import time
import unittest

from leastloss.books import is_book
from leastloss.errors import Lost, NoBook, NoTurns
from leastloss.games import game
from leastloss.musts import lost_in
from leastloss.turns import least_in
from tests import by_rows, by_words
from tests.things import A, B, NO, X, Y, YES, Untouchable, book, deep, no_books, odd_things, wide

LOST = (book(musts=(NO,)), book(musts=(A,)), book(musts=(("not", ("before", YES)),)), wide(musts=(("same", A, B),)))


def wishing(*wishes, promises=(), musts=()):
    return book(promises=promises, musts=musts, wishes=wishes)


def no_turns():
    """Things of many kinds, none of them a number of turns."""
    numbers = [-1, -2, -60, 61, 62, 100, 10 ** 30, -10 ** 30, 0.0, 1.0, 60.0, "0", "1", " 1", b"1", (0,), [1], 1j]
    return numbers + [thing for thing in odd_things() if type(thing) is not int]


def over_all_plays(whole, play, turns, lost):
    """The least loss of the turns behind a play, with no memory: all plays of whole turns are gone through."""
    if turns == 0:
        return 0
    worst = 0
    for foe in by_words.foe_moves(whole, play):
        held = []
        for friend in by_words.settings(whole[1]):
            longer = play + [foe + friend]
            if by_words.keeps(whole, whole[3], longer) and not lost(longer):
                held.append(by_words.loss(whole, longer) + over_all_plays(whole, longer, turns - 1, lost))
        worst = max(worst, min(held))
    return worst


class ByHand(unittest.TestCase):
    def held(self, whole, *losses):
        for turns, loss in enumerate(losses):
            self.assertEqual(least_in(whole, turns), loss, turns)
            self.assertIs(type(least_in(whole, turns)), int)

    def test_no_turn(self):
        for whole in (book(), wishing((99, NO)), wide(wishes=((7, NO),) * 5), book(promises=(NO,))):
            self.assertEqual(least_in(whole, 0), 0)

    def test_the_same_at_each_turn(self):
        self.held(book(), 0, 0, 0, 0)
        self.held(wishing((7, NO)), 0, 7, 14, 21, 28)
        self.held(wishing((7, NO), (8, NO)), 0, 15, 30)
        self.held(wishing((3, A), (5, ("not", A))), 0, 5, 10, 15)
        self.held(wishing((3, X), (5, ("not", X))), 0, 3, 6, 9)
        self.held(wishing((4, ("same", A, X)), (3, ("not", X))), 0, 3, 6, 9)

    def test_other_losses_at_later_turns(self):
        self.held(wishing((9, ("before", YES))), 0, 9, 9, 9)
        self.held(wishing((9, ("not", ("before", YES)))), 0, 0, 9, 18, 27)
        self.held(wishing((9, ("not", deep(3, "before", YES)))), 0, 0, 0, 9, 18)
        self.held(wishing((9, ("before", X))), 0, 9, 9, 9)

    def test_the_friend_looks_ahead(self):
        # Off costs 3 now; on is free now, and costs 5 at each turn from the next one on.
        self.held(wishing((3, X), (5, ("not", ("before", ("once", X))))), 0, 0, 3, 6, 9)
        # On for ever 5 is lost but for the first turn, off for ever 3; in turns 3 at every other one.
        self.held(wishing((3, X), (5, ("not", ("and", X, ("before", X))))), 0, 0, 3, 3, 6, 6)

    def test_the_foe_looks_ahead(self):
        # Off brings 2; on brings nothing now, and 7 more at each turn from the next one on.
        self.held(wishing((2, A), (7, ("not", ("before", ("once", A))))), 0, 2, 9, 18, 27)
        self.held(wishing((2, A), (1, ("not", ("before", A)))), 0, 2, 4, 6)
        # Only a change costs something: ON behind OFF 9, OFF behind ON 2.
        on = ("and", A, ("not", ("before", A)))
        off = ("and", ("not", A), ("before", A))
        self.held(wishing((9, ("not", on)), (2, ("not", off))), 0, 9, 11, 20, 22, 31)

    def test_promises(self):
        self.held(wishing((3, A), (5, ("not", A)), promises=(("not", A),)), 0, 3, 6)
        self.held(wishing((5, ("not", A)), promises=(("same", A, ("not", ("before", A))),)), 0, 5, 5, 10, 10)

    def test_where_the_foe_has_no_move(self):
        self.held(wishing((7, NO), promises=(NO,)), 0, 0, 0, 0)
        self.held(wishing((7, NO), promises=(("not", ("before", YES)),)), 0, 7, 7, 7)
        self.held(wishing((7, NO), promises=(("not", deep(4, "before", YES)),)), 0, 7, 14, 21, 21, 21)
        # The friend ends it by X, that costs 9 more.
        ended = ("not", ("before", X))
        self.held(wishing((5, NO), (9, ("not", X)), promises=(ended,)), 0, 5, 10, 14, 14, 14)

    def test_musts(self):
        self.held(wishing((3, ("not", X)), musts=(X,)), 0, 3, 6)
        self.held(wishing((3, ("not", X)), musts=(("then", A, X),)), 0, 3, 6)

    def test_good_answers_alone(self):
        # By off nothing is lost now, but the must can't be kept at the next turn: so it is no good answer at any turn.
        whole = wishing((3, ("not", X)), musts=(("or", ("not", ("before", YES)), ("before", X)),))
        self.held(whole, 0, 3, 6, 9)
        self.held(wishing((3, ("not", X)), (4, NO), musts=(("then", ("before", YES), ("before", X)),)), 0, 7, 14)

    def test_more_lamps(self):
        whole = wide(wishes=((4, ("then", A, X)), (4, ("then", B, Y)), (2, ("not", X)), (3, ("not", Y))))
        self.held(whole, 0, 5, 10, 15)
        self.held(wide(wishes=((99, NO),) * 5), 0, 495, 990)


class AllPlays(unittest.TestCase):
    def test_small_numbers_of_turns(self):
        seen = {}
        for whole in by_words.some_books(200) + by_words.some_moving_books(200):
            if not is_book(whole) or lost_in(whole)[0] is not None:
                continue
            nodes = game(whole)
            memories = [node[0] for node in nodes]
            turns_lost = by_words.lost(nodes)
            pieces = self.pieces(whole)

            def lost(play):
                number = memories.index(by_words.memory(whole, pieces, play))
                return turns_lost[number][0] is not None

            turns = 3 if len(whole[0]) + len(whole[1]) == 2 else 2
            for number in range(turns + 1):
                told = least_in(whole, number)
                self.assertEqual(told, over_all_plays(whole, [], number, lost), (whole, number))
            seen[told > 0] = seen.get(told > 0, 0) + 1
        self.assertTrue(seen[True] > 20 and seen[False] > 20)

    def pieces(self, whole):
        """The past pieces in the order in which they begin, read off the sayings' own order."""
        found = []

        def look(saying):
            if saying[0] in ("before", "once", "sofar", "since") and saying not in found:
                found.append(saying)
            for part in saying[1:]:
                if isinstance(part, tuple):
                    look(part)

        for saying in whole[2] + whole[3] + tuple(wish[1] for wish in whole[4]):
            look(saying)
        return found

    def test_row_by_row(self):
        for whole in by_words.some_books(100) + by_words.some_moving_books(150):
            if is_book(whole) and lost_in(whole)[0] is None:
                moves = by_rows.good(game(whole))
                for turns in (1, 2, 7, 20, 59, 60):
                    self.assertEqual(least_in(whole, turns), by_rows.least_in(moves, turns), whole)

    def test_sixty_turns_in_little_time(self):
        pieces = [("before", lamp) for lamp in (A, B, X, Y)]
        wishes = tuple((99, ("same", piece, lamp)) for piece, lamp in zip(pieces, (X, Y, A, B))) + ((99, NO),)
        whole = wide(wishes=wishes)
        self.assertEqual(len(game(whole)), 16)
        start = time.process_time()
        told = least_in(whole, 60)
        self.assertLess(time.process_time() - start, 5)
        self.assertEqual(told, by_rows.least_in(by_rows.good(game(whole)), 60))
        self.assertEqual(least_in(wishing((7, NO)), 60), 420)


class Refusals(unittest.TestCase):
    def test_no_turns(self):
        for turns in no_turns():
            with self.subTest(kind=type(turns).__name__):
                for whole in (book(), book(promises=(NO,)), wide()):
                    with self.assertRaises(NoTurns):
                        least_in(whole, turns)

    def test_the_edges(self):
        for turns in (0, 1, 59, 60):
            self.assertEqual(least_in(wishing((7, NO)), turns), 7 * turns)
        for turns in (-1, 61, True, False, "1", None):
            with self.assertRaises(NoTurns):
                least_in(wishing((7, NO)), turns)

    def test_lost_also_where_the_turns_are_none(self):
        for whole in LOST:
            for turns in [0, 1, 60] + no_turns():
                with self.assertRaises(Lost):
                    least_in(whole, turns)

    def test_no_book_ahead_of_both(self):
        for thing in no_books() + [book(musts=(NO,), wishes=()), book(musts=(NO,) * 4)]:
            with self.subTest(kind=type(thing).__name__):
                for turns in (0, 60, 61, -1, None, True, Untouchable()):
                    with self.assertRaises(NoBook):
                        least_in(thing, turns)


class Kinds(unittest.TestCase):
    def test_what_was_handed_in_is_as_before(self):
        whole = wishing((5, ("same", X, ("before", A))), (3, ("not", X)))
        kept = copy.deepcopy(whole)
        first = [least_in(whole, turns) for turns in range(9)]
        self.assertEqual(first, [least_in(kept, turns) for turns in range(9)])
        self.assertEqual(whole, kept)


if __name__ == "__main__":
    unittest.main()
