import copy
import math
import random
import unittest
from fractions import Fraction

from leastloss.books import is_book
from leastloss.errors import Lost, NoBook
from leastloss.games import game
from leastloss.means import foe_plan, friend_plan, lowest_terms, mean, settled_mean
from leastloss.musts import lost_in
from leastloss.plans import settled
from tests import by_rows, by_words
from tests.things import A, B, NO, X, Y, YES, book, deep, no_books, wide

T = True
F = False
OFF = (F,)
ON = (T,)
ASKED = (mean, friend_plan, foe_plan)


def wishing(*wishes, promises=(), musts=()):
    return book(promises=promises, musts=musts, wishes=wishes)


def every(turns):
    """A promise by which the foe's lamp is on at the first turn and at each one so many turns later, else off."""
    waits = YES
    for back in range(2, turns + 1):
        waits = ("and", waits, ("not", deep(back, "before", A)))
    return ("same", A, waits)


class MeansCase(unittest.TestCase):
    def shown(self, whole, told):
        """The mean is told so, and the plans and papers of both sides show it by the document's words."""
        nodes = game(whole)
        self.assertEqual(mean(whole), told)
        self.assertEqual([type(part) for part in mean(whole)], [int, int])
        plan, paper = friend_plan(whole)
        self.assertTrue(by_rows.friend_shows(nodes, told, plan, paper), whole)
        plan, paper = foe_plan(whole)
        self.assertTrue(by_rows.foe_shows(nodes, told, plan, paper), whole)


class WithoutPastPieces(MeansCase):
    def test_nothing_is_lost(self):
        self.shown(book(), (0, 1))
        self.shown(wishing((9, X)), (0, 1))
        self.shown(wishing((9, ("same", A, X)), (4, ("then", X, A))), (0, 1))

    def test_a_whole_number(self):
        self.shown(wishing((7, NO)), (7, 1))
        self.shown(wishing((7, NO), (8, NO)), (15, 1))
        self.shown(wishing(*[(99, NO)] * 5), (495, 1))

    def test_the_foe_takes_the_worst_move(self):
        self.shown(wishing((3, A)), (3, 1))
        self.shown(wishing((3, A), (5, ("not", A))), (5, 1))
        self.shown(wishing((5, A), (3, ("not", A))), (5, 1))

    def test_the_friend_gives_the_best_answer(self):
        self.shown(wishing((3, X), (5, ("not", X))), (3, 1))
        self.shown(wishing((5, X), (3, ("not", X))), (3, 1))

    def test_by_hand(self):
        # At OFF nothing is lost by OFF; at ON 4 by OFF, 3 by ON.
        self.shown(wishing((4, ("same", A, X)), (3, ("not", X))), (3, 1))
        # Of (a, b) the friend needs x and y: 2 and 3 are lost for them, or 4 for each that is left off.
        whole = wide(wishes=((4, ("then", A, X)), (4, ("then", B, Y)), (2, ("not", X)), (3, ("not", Y))))
        self.shown(whole, (5, 1))
        # All four lamps must be alike, or 10 is lost; at (F, T) and (T, F) they can't be, and it is 10 whatever is set.
        whole = wide(wishes=((10, ("and", ("same", A, B), ("and", ("same", A, X), ("same", A, Y)))),))
        self.shown(whole, (10, 1))

    def test_promises(self):
        self.shown(wishing((3, A), (5, ("not", A)), promises=(("not", A),)), (3, 1))
        self.shown(wishing((3, A), promises=(A,)), (0, 1))
        self.shown(wide(promises=(("same", A, B),), wishes=((8, ("or", A, ("not", B))), (1, ("and", A, B)))), (1, 1))


class Rings(MeansCase):
    def test_a_fraction(self):
        self.shown(wishing((3, ("not", A)), promises=(every(2),)), (3, 2))
        self.shown(wishing((5, ("not", A)), promises=(every(3),)), (5, 3))
        self.shown(wishing((7, ("not", A)), promises=(every(5),)), (7, 5))

    def test_a_common_divisor_is_taken_out(self):
        self.shown(wishing((4, ("not", A)), promises=(every(2),)), (2, 1))
        self.shown(wishing((6, ("not", A)), promises=(every(4),)), (3, 2))
        self.shown(wishing((15, ("not", A)), promises=(every(5),)), (3, 1))
        self.shown(wishing((99, ("not", A)), promises=(every(3),)), (33, 1))

    def test_the_friend_takes_turns(self):
        # On for ever 5 is lost, off for ever 3; in turns 3 is lost at every other turn.
        whole = wishing((3, X), (5, ("not", ("and", X, ("before", X)))))
        self.shown(whole, (3, 2))
        whole = wishing((3, X), (1, ("not", ("and", X, ("before", X)))))
        self.shown(whole, (1, 1))

    def test_the_foe_takes_turns(self):
        # Only a change costs something: ON behind OFF 9, OFF behind ON 2.
        on = ("and", A, ("not", ("before", A)))
        off = ("and", ("not", A), ("before", A))
        self.shown(wishing((9, ("not", on)), (2, ("not", off))), (11, 2))
        self.shown(wishing((9, ("not", on)), (2, ("not", off)), (6, ("not", A))), (17, 2))
        self.shown(wishing((2, ("not", on)), (2, ("not", off)), (6, ("not", A))), (6, 1))

    def test_against_one_another(self):
        # A turn that is asked for must be given at that one or the next; two gifts running cost 8, one costs 2.
        asked = ("then", ("before", ("and", A, ("not", X))), X)
        whole = wishing((20, asked), (8, ("not", ("and", X, ("before", X)))), (2, ("not", X)))
        self.shown(whole, (1, 1))
        whole = wishing((20, ("then", A, X)), (8, ("not", ("and", X, ("before", X)))), (2, ("not", X)))
        self.shown(whole, (10, 1))

    def test_what_comes_once_does_not_count(self):
        self.shown(wishing((99, ("before", YES))), (0, 1))
        self.shown(wishing((99, ("before", YES)), (1, NO)), (1, 1))
        self.shown(wishing((50, deep(4, "before")), (4, A)), (4, 1))

    def test_a_price_now_for_less_later(self):
        # Once on, x costs 90 at that turn, and 2 is never lost again.
        rises = ("and", X, ("not", ("before", ("once", X))))
        self.shown(wishing((90, ("not", rises)), (2, ("once", X))), (0, 1))
        # The foe can go from a node that costs 5 for ever to one that costs 6, by a turn that costs nothing.
        whole = wishing((5, ("once", A)), (6, ("not", ("before", ("once", A)))))
        self.shown(whole, (6, 1))

    def test_losses_at_all_turns_of_a_ring(self):
        # 99 at one turn of three, 98 at the others.
        self.shown(wishing((99, ("not", A)), (98, A), promises=(every(3),)), (295, 3))


class WithoutMoves(MeansCase):
    def test_none_at_the_first_node(self):
        for whole in (wishing((99, NO), promises=(NO,)), wishing((99, NO), promises=(A, ("not", A)), musts=(NO,))):
            self.assertEqual([moves for memory, moves in game(whole)], [()])
            self.shown(whole, (0, 1))
            self.assertEqual(friend_plan(whole)[0], [()])
            self.assertEqual(foe_plan(whole)[0], [()])

    def test_none_later(self):
        whole = wishing((9, NO), promises=(("not", ("before", YES)),))
        self.assertEqual([len(moves) for memory, moves in game(whole)], [2, 0])
        self.shown(whole, (0, 1))
        plan, paper = friend_plan(whole)
        self.assertEqual(plan[1], ())
        self.assertGreaterEqual(paper[0], 9)
        plan, paper = foe_plan(whole)
        self.assertEqual(plan[1], ())

    def test_the_foe_goes_on_rather(self):
        # By ON 51 is lost and then nothing for ever, by OFF 1 at each turn.
        whole = wishing((50, ("not", A)), (1, NO), promises=(("not", ("before", A)),))
        self.shown(whole, (1, 1))
        plan, paper = foe_plan(whole)
        self.assertEqual(plan, [OFF, None])
        self.assertEqual(paper[1], None)
        plan, paper = friend_plan(whole)
        self.assertEqual(plan[1], ())
        self.assertIsInstance(paper[1], int)

    def test_the_friend_brings_it_to_an_end(self):
        whole = wishing((99, NO), promises=(("not", ("before", X)),))
        self.shown(whole, (0, 1))
        plan, paper = friend_plan(whole)
        self.assertEqual([friend for foe, friend in plan[0]], [ON, ON])

    def test_a_must_keeps_the_friend_from_it(self):
        whole = wishing((99, NO), promises=(("not", ("before", X)),), musts=(("not", X),))
        self.shown(whole, (99, 1))


class Musts(MeansCase):
    def test_at_a_greater_loss(self):
        self.shown(wishing((4, ("not", X))), (0, 1))
        self.shown(wishing((4, ("not", X)), musts=(("then", A, X),)), (4, 1))
        self.shown(wishing((3, A), (4, ("not", X)), (6, X), musts=(("then", A, X),)), (7, 1))

    def test_only_good_answers_count(self):
        # Behind x the foe breaks the must by ON: so x is an answer, and no good one.
        must = ("not", ("and", A, ("before", X)))
        whole = wishing((5, X), musts=(must,))
        self.assertEqual(lost_in(whole), [None, 1])
        self.shown(whole, (5, 1))
        plan, paper = friend_plan(whole)
        self.assertEqual(plan, [((OFF, OFF), (ON, OFF)), None])
        self.assertIsNone(paper[1])
        plan, paper = foe_plan(whole)
        self.assertIn(plan, ([OFF, None], [ON, None]))
        self.assertIsNone(paper[1])
        # Where the foe has promised not to, x is a good answer.
        self.shown(wishing((5, X), promises=(("not", A),), musts=(must,)), (0, 1))
        self.shown(wishing((5, X), promises=(("then", ("before", X), ("not", A)),), musts=(must,)), (0, 1))

    def test_the_foe_brings_about_no_more_by_what_is_no_good_answer(self):
        # By an answer that is no good one 90 would be lost at each turn.
        whole = wishing((90, ("not", X)), (2, NO), musts=(("not", ("before", ("before", X))),))
        self.assertIsNone(lost_in(whole)[0])
        self.assertIn(1, lost_in(whole))
        self.shown(whole, (2, 1))


class Rows(MeansCase):
    def test_none_where_the_plan_does_not_show_the_mean(self):
        # The friend never sets x: where it has, 7 is lost for ever, and no number is enough.
        whole = wishing((7, ("not", ("once", X))))
        self.shown(whole, (0, 1))
        plan, paper = friend_plan(whole)
        self.assertEqual(plan, [((OFF, OFF), (ON, OFF)), None])
        self.assertIsNone(paper[1])
        # The foe never sets a: where it has, nothing is lost.
        whole = wishing((7, ("once", A)))
        self.shown(whole, (7, 1))
        plan, paper = foe_plan(whole)
        self.assertEqual(plan, [OFF, None])
        self.assertIsNone(paper[1])

    def test_numbers_that_are_needed(self):
        whole = wishing((9, ("before", YES)))
        plan, paper = friend_plan(whole)
        self.assertGreaterEqual(paper[0], 9 + paper[1])
        whole = wishing((3, ("not", A)), promises=(every(2),))
        # Of 3 and 0 by turns the friend is 3 ahead of the mean behind the first turn, reckoned in halves.
        plan, paper = friend_plan(whole)
        self.assertGreaterEqual(paper[0], 3 + paper[1])
        self.assertGreaterEqual(paper[1], paper[0] - 3)
        plan, paper = foe_plan(whole)
        self.assertGreaterEqual(paper[1], 3 + paper[0])

    def test_a_row_for_each_node(self):
        for whole in by_words.some_moving_books(60):
            if not is_book(whole):
                continue
            lost = lost_in(whole)
            if lost[0] is not None:
                continue
            for ask in (friend_plan, foe_plan):
                told = ask(whole)
                self.assertIs(type(told), tuple)
                self.assertEqual([type(part) for part in told], [list, list])
                self.assertEqual([len(part) for part in told], [len(lost), len(lost)])
                for turns, row, number in zip(lost, *told):
                    self.assertEqual(row is None, number is None)
                    self.assertIn(type(row), (tuple, type(None)))
                    self.assertIn(type(number), (int, type(None)))
                    if turns is not None:
                        self.assertIsNone(row)


class LostBooks(unittest.TestCase):
    def test_lost(self):
        for whole in (
            book(musts=(NO,)), book(musts=(A,)), book(musts=(("not", ("before", YES)),)),
            book(musts=(("not", deep(5, "before", A)),)), wide(musts=(X, ("not", X))),
        ):
            self.assertIsNotNone(lost_in(whole)[0])
            for ask in ASKED:
                with self.assertRaises(Lost):
                    ask(whole)

    def test_a_later_node_alone_is_lost(self):
        whole = book(musts=(("not", ("before", X)),))
        self.assertEqual(lost_in(whole), [None, 1])
        self.assertEqual(mean(whole), (0, 1))

    def test_no_book(self):
        for thing in no_books():
            with self.subTest(kind=type(thing).__name__):
                for ask in ASKED:
                    with self.assertRaises(NoBook):
                        ask(thing)

    def test_no_book_ahead_of_lost(self):
        for thing in (book(musts=(NO,), wishes=()), book(musts=(NO,) * 4), list(book(musts=(NO,)))):
            for ask in ASKED:
                with self.assertRaises(NoBook):
                    ask(thing)


class ManyBooks(unittest.TestCase):
    def by_the_words(self, books, most_plans):
        means = []
        tried = 0
        for whole in books:
            if not is_book(whole):
                continue
            nodes = game(whole)
            moves = by_rows.good(nodes)
            if moves[0] is None:
                for ask in ASKED:
                    self.assertRaises(Lost, ask, whole)
                continue
            told = mean(whole)
            friend = friend_plan(whole)
            foe = foe_plan(whole)
            self.assertEqual(math.gcd(*told), 1, whole)
            self.assertTrue(by_rows.friend_shows(nodes, told, *friend), whole)
            self.assertTrue(by_rows.foe_shows(nodes, told, *foe), whole)
            for turns in (0, 1, 2, 5, 60):
                held = told[1] * by_rows.least_in(moves, turns)
                self.assertLessEqual(held, told[0] * turns + friend[1][0], whole)
                self.assertGreaterEqual(held, told[0] * turns - foe[1][0], whole)
            if len(moves) < 6 and by_rows.plans_of_the_foe(moves) <= most_plans:
                self.assertEqual(told, by_rows.mean(moves), whole)
                tried += 1
            means.append(told)
        return (means, tried)

    def test_by_the_words(self):
        means, tried = self.by_the_words(by_words.some_books(1500), 16)
        self.assertGreater(tried, 300)
        self.assertIn((0, 1), means)
        self.assertTrue([told for told in means if told[0] > 0])

    def test_moving_books_by_the_words(self):
        means, tried = self.by_the_words(by_words.some_moving_books(600), 64)
        self.assertGreater(tried, 60)
        for down in (1, 2, 3):
            self.assertTrue([told for told in means if told[1] == down], down)


def some_good_moves(draw):
    """Good moves of no book's game: more rings, of more lengths, than small books have."""
    four = by_words.settings("xy")
    nodes = draw.randrange(1, 17)
    highest = draw.choice((1, 2, 9, 495))
    good = []
    for _ in range(nodes):
        moves = []
        for foe in four[:draw.choice((0, 1, 1, 2, 2, 3, 4))]:
            answers = [(friend, draw.randrange(highest + 1), draw.randrange(nodes)) for friend in four]
            moves.append((foe, tuple(answers[:draw.randrange(1, 5)])))
        good.append(tuple(moves))
    return good


class Settling(unittest.TestCase):
    def test_neither_side_does_better(self):
        draw = random.Random(5)
        downs = {}
        for _ in range(400):
            good = some_good_moves(draw)
            told = settled_mean(settled(good))
            # Far from 0 what is held in so many turns is near the mean: by no more than all nodes at the highest loss.
            for turns in (100, 700):
                off = abs(told[1] * by_rows.least_in(good, turns) - told[0] * turns)
                self.assertLessEqual(off, told[1] * len(good) * 495)
            if len(good) < 6 and by_rows.plans_of_the_foe(good) <= 64:
                self.assertEqual(told, by_rows.mean(good), good)
            downs[told[1]] = downs.get(told[1], 0) + 1
        self.assertTrue(downs[1] and downs[2] and downs[3])

    def test_means_that_lie_close(self):
        # The means of two rings lie 1 in 240 apart; late and early losses make the wrong one look better at first.
        for one, other in (((15, 14), (16, 15)), ((15, 1), (16, 1)), ((15, 481), (16, 513))):
            means = [Fraction(loss, size) for size, loss in (one, other)]
            self.assertEqual(abs(means[0] - means[1]) * 240, 1)
            for lost_at in (0, 7, 14):
                for other_at in (0, 7, 15):
                    rings = (one + (lost_at,), other + (other_at,))
                    told = [settled_mean(settled(two_rings(rings, foe_chooses))) for foe_chooses in (False, True)]
                    self.assertEqual([Fraction(*each) for each in told], [min(means), max(means)])


def two_rings(rings, foe_chooses):
    """Good moves by which one side chooses, at node 0, between rings (nodes, loss, place where it is lost)."""
    starts = []
    good = [None]
    for size, loss, lost_at in rings:
        starts.append(len(good))
        for place in range(size):
            behind = starts[-1] if place == size - 1 else len(good) + 1
            good.append(((OFF, ((OFF, loss if place == lost_at else 0, behind),)),))
    if foe_chooses:
        good[0] = ((OFF, ((OFF, 0, starts[0]),)), (ON, ((OFF, 0, starts[1]),)))
    else:
        good[0] = ((OFF, ((OFF, 0, starts[0]), (ON, 0, starts[1]))),)
    return good


class LowestTerms(unittest.TestCase):
    def test_by_the_greatest_common_divisor(self):
        for up in range(40):
            for down in range(1, 20):
                divisor = math.gcd(up, down)
                self.assertEqual(lowest_terms(up, down), (up // divisor, down // divisor))


class Kinds(unittest.TestCase):
    def test_new_lists_each_time(self):
        whole = book(musts=(("not", ("before", X)),), wishes=((3, A), (2, ("before", YES))))
        before = copy.deepcopy(whole)
        self.assertEqual(mean(whole), mean(before))
        for ask in (friend_plan, foe_plan):
            first = ask(whole)
            second = ask(whole)
            self.assertEqual(first, second)
            for one, other in zip(first, second):
                self.assertIsNot(one, other)
                one[0] = "changed"
                one.append(None)
            self.assertEqual(ask(whole), second)
            self.assertEqual(ask(before), second)
        self.assertEqual(whole, before)


if __name__ == "__main__":
    unittest.main()
