import copy
import unittest

from leastloss.books import is_book
from leastloss.errors import NoBook
from leastloss.games import game
from leastloss.means import foe_plan, friend_plan, mean
from leastloss.musts import lost_in
from leastloss.papers import foe_shows, friend_shows
from tests import by_rows, by_words
from tests.things import A, NO, X, YES, Untouchable, book, nested_tuples, no_books, odd_things, wide

T = True
F = False
OFF = (F,)
ON = (T,)

# 9 is lost at the first turn, 2 at each turn with x on.
GIVEN = book(wishes=((9, ("before", YES)), (2, ("not", X))))
# From the first x on 6 is lost for ever; 1 at each turn with a on.
ONCE = book(wishes=((6, ("not", ("once", X))), (1, ("not", A))))
# Behind x the must can be broken: node 1 is lost.
LOSING = book(musts=(("not", ("and", A, ("before", X))),), wishes=((5, X),))
# Behind a the foe has no move any more.
ENDING = book(promises=(("not", ("before", A)),), wishes=((3, ("not", A)),))


def told_books(number):
    """Books of many kinds in which node 0 is not lost."""
    made = by_words.some_books(number) + by_words.some_moving_books(number)
    return [whole for whole in made if is_book(whole) and lost_in(whole)[0] is None]


def changed(rows, place, row):
    """These rows with another one at a place."""
    return rows[:place] + [row] + rows[place + 1:]


class FriendByHand(unittest.TestCase):
    def test_one_node(self):
        whole = book(wishes=((4, ("same", A, X)), (3, ("not", X))))
        plan = [((OFF, OFF), (ON, ON))]
        self.assertIs(friend_shows(whole, (3, 1), plan, [0]), True)
        self.assertIs(friend_shows(whole, (3, 1), plan, [7]), True)
        self.assertIs(friend_shows(whole, (2, 1), plan, [7]), False)
        # With a number as great as can be, a ring that loses more than the mean is still none.
        self.assertIs(friend_shows(whole, (3, 1), [((OFF, OFF), (ON, OFF))], [10 ** 30]), False)
        self.assertIs(friend_shows(whole, (4, 1), [((OFF, OFF), (ON, OFF))], [0]), True)

    def test_the_number_is_enough_or_one_less(self):
        # At node 0 9 is lost, then nothing, by x off.
        plan = [((OFF, OFF), (ON, OFF)), ((OFF, OFF), (ON, OFF))]
        self.assertEqual(mean(GIVEN), (0, 1))
        self.assertTrue(friend_shows(GIVEN, (0, 1), plan, [9, 0]))
        self.assertFalse(friend_shows(GIVEN, (0, 1), plan, [8, 0]))
        self.assertTrue(friend_shows(GIVEN, (0, 1), plan, [14, 5]))
        self.assertFalse(friend_shows(GIVEN, (0, 1), plan, [13, 5]))
        # Down times the loss, less up.
        self.assertTrue(friend_shows(GIVEN, (0, 4), plan, [36, 0]))
        self.assertFalse(friend_shows(GIVEN, (0, 4), plan, [35, 0]))
        self.assertTrue(friend_shows(GIVEN, (5, 4), plan, [31, 0]))
        self.assertFalse(friend_shows(GIVEN, (5, 4), plan, [30, 0]))

    def test_each_move_counts(self):
        # At ON x is on, and 11 is lost at node 0, 2 later.
        for first, second in (((ON, OFF), (OFF, ON)), ((OFF, ON), (ON, OFF))):
            plan = [((OFF, first[0]), (ON, first[1])), ((OFF, OFF), (ON, OFF))]
            self.assertTrue(friend_shows(GIVEN, (0, 1), plan, [11, 0]))
            self.assertFalse(friend_shows(GIVEN, (0, 1), plan, [10, 0]))
            plan = [((OFF, OFF), (ON, OFF)), ((OFF, second[0]), (ON, second[1]))]
            self.assertTrue(friend_shows(GIVEN, (2, 1), plan, [7, 0]))
            self.assertFalse(friend_shows(GIVEN, (1, 1), plan, [99, 99]))

    def test_none_where_it_is_not_come_to(self):
        plan = [((OFF, OFF), (ON, OFF)), None]
        self.assertEqual(mean(ONCE), (1, 1))
        self.assertTrue(friend_shows(ONCE, (1, 1), plan, [0, None]))
        # Where it is come to, None does not do.
        for row in (((OFF, ON), (ON, OFF)), ((OFF, OFF), (ON, ON))):
            self.assertFalse(friend_shows(ONCE, (1, 1), [row, None], [0, None]))
            self.assertFalse(friend_shows(ONCE, (7, 1), [row, None], [99, None]))
        self.assertTrue(friend_shows(ONCE, (7, 1), [row, ((OFF, OFF), (ON, OFF))], [0, 0]))

    def test_rows_that_are_not_come_to_count_if_they_are_there(self):
        plan = [((OFF, OFF), (ON, OFF))] * 2
        self.assertFalse(friend_shows(ONCE, (1, 1), plan, [0, 50]))
        self.assertTrue(friend_shows(ONCE, (7, 1), plan, [0, 50]))

    def test_lost_nodes(self):
        good = ((OFF, OFF), (ON, OFF))
        self.assertEqual(lost_in(LOSING), [None, 1])
        self.assertTrue(friend_shows(LOSING, (5, 1), [good, None], [0, None]))
        # Node 1 is lost: no row may stand there, none may lead there.
        for row in (good, ((OFF, OFF),), (), ((OFF, OFF), (ON, ON))):
            self.assertFalse(friend_shows(LOSING, (5, 1), [good, row], [0, 0]))
            self.assertFalse(friend_shows(LOSING, (5, 1), [good, row], [0, None]))
        self.assertFalse(friend_shows(LOSING, (5, 1), [good, None], [0, 0]))
        for row in (((OFF, ON), (ON, OFF)), ((OFF, OFF), (ON, ON)), ((OFF, ON), (ON, ON))):
            for behind in (None, good, ((OFF, OFF),)):
                self.assertFalse(friend_shows(LOSING, (5, 1), [row, behind], [0, None if behind is None else 0]))

    def test_a_node_without_moves(self):
        row = ((OFF, OFF), (ON, OFF))
        self.assertTrue(friend_shows(ENDING, (0, 1), [row, ()], [3, 0]))
        self.assertTrue(friend_shows(ENDING, (0, 1), [row, ()], [8, 5]))
        self.assertTrue(friend_shows(ENDING, (2, 1), [row, ()], [1, 0]))
        self.assertFalse(friend_shows(ENDING, (0, 1), [row, ()], [2, 0]))
        self.assertFalse(friend_shows(ENDING, (0, 1), [row, None], [3, None]))
        for wrong in (row, OFF, (None,), [], ((),), 0, False, ""):
            self.assertFalse(friend_shows(ENDING, (0, 1), [row, wrong], [3, 0]))
        self.assertTrue(friend_shows(book(promises=(NO,)), (0, 1), [()], [0]))

    def test_two_lamps(self):
        whole = wide(promises=(A,), wishes=((2, X),))
        good = (((T, F), (T, F)), ((T, T), (T, T)))
        self.assertTrue(friend_shows(whole, (0, 1), [good], [0]))
        self.assertFalse(friend_shows(whole, (0, 1), [(good[0], ((T, T), (F, T)))], [0]))
        self.assertFalse(friend_shows(whole, (0, 1), [(((F, F), (T, F)),) + good], [0]))
        self.assertFalse(friend_shows(whole, (0, 1), [good[::-1]], [0]))


class FoeByHand(unittest.TestCase):
    def test_one_node(self):
        whole = book(wishes=((4, ("same", A, X)), (3, ("not", X))))
        self.assertIs(foe_shows(whole, (3, 1), [ON], [0]), True)
        self.assertIs(foe_shows(whole, (3, 1), [ON], [7]), True)
        self.assertIs(foe_shows(whole, (2, 1), [ON], [0]), True)
        self.assertIs(foe_shows(whole, (4, 1), [ON], [99]), False)
        self.assertIs(foe_shows(whole, (3, 1), [OFF], [10 ** 30]), False)
        self.assertIs(foe_shows(whole, (0, 1), [OFF], [0]), True)

    def test_the_number_is_enough_or_one_less(self):
        # Nothing is lost at node 0, then 9 at each turn.
        whole = book(wishes=((9, ("not", ("before", YES))),))
        self.assertEqual(mean(whole), (9, 1))
        self.assertTrue(foe_shows(whole, (9, 1), [OFF, ON], [9, 0]))
        self.assertFalse(foe_shows(whole, (9, 1), [OFF, ON], [8, 0]))
        self.assertTrue(foe_shows(whole, (9, 1), [ON, OFF], [14, 5]))
        self.assertFalse(foe_shows(whole, (9, 1), [ON, OFF], [13, 5]))
        # Up, less down times the loss.
        self.assertTrue(foe_shows(whole, (17, 2), [ON, OFF], [17, 0]))
        self.assertFalse(foe_shows(whole, (17, 2), [ON, OFF], [16, 0]))
        self.assertFalse(foe_shows(whole, (19, 2), [ON, OFF], [99, 0]))
        self.assertTrue(foe_shows(GIVEN, (0, 1), [ON, OFF], [0, 0]))
        self.assertTrue(foe_shows(GIVEN, (0, 1), [ON, OFF], [0, 9]))
        self.assertFalse(foe_shows(GIVEN, (0, 1), [ON, OFF], [0, 10]))

    def test_each_good_answer_counts(self):
        for wish in (X, ("not", X)):
            whole = book(wishes=((5, wish),))
            self.assertFalse(foe_shows(whole, (5, 1), [OFF], [99]))
            self.assertTrue(foe_shows(whole, (0, 1), [OFF], [0]))

    def test_none_where_it_is_not_come_to(self):
        whole = book(wishes=((7, ("once", A)),))
        self.assertTrue(foe_shows(whole, (7, 1), [OFF, None], [0, None]))
        self.assertFalse(foe_shows(whole, (7, 1), [ON, None], [99, None]))
        self.assertFalse(foe_shows(whole, (0, 1), [ON, None], [0, None]))
        self.assertTrue(foe_shows(whole, (0, 1), [ON, ON], [0, 0]))
        # The friend may go there by an answer of its own.
        self.assertFalse(foe_shows(ONCE, (1, 1), [ON, None], [0, None]))
        self.assertTrue(foe_shows(ONCE, (1, 1), [ON, ON], [0, 0]))

    def test_rows_that_are_not_come_to_count_if_they_are_there(self):
        whole = book(wishes=((7, ("once", A)),))
        self.assertFalse(foe_shows(whole, (7, 1), [OFF, OFF], [0, 99]))
        self.assertTrue(foe_shows(whole, (0, 1), [OFF, OFF], [0, 7]))

    def test_lost_nodes(self):
        for row in (OFF, ON):
            self.assertTrue(foe_shows(LOSING, (5, 1), [row, None], [0, None]))
            self.assertFalse(foe_shows(LOSING, (5, 1), [row, None], [0, 0]))
            for behind in (OFF, ON, ()):
                self.assertFalse(foe_shows(LOSING, (5, 1), [row, behind], [0, 0]))
                self.assertFalse(foe_shows(LOSING, (5, 1), [row, behind], [0, None]))

    def test_a_node_without_moves(self):
        self.assertTrue(foe_shows(ENDING, (0, 1), [ON, ()], [0, 0]))
        self.assertTrue(foe_shows(ENDING, (0, 1), [ON, ()], [2, 5]))
        self.assertFalse(foe_shows(ENDING, (0, 1), [ON, ()], [1, 5]))
        self.assertTrue(foe_shows(ENDING, (0, 1), [OFF, None], [0, None]))
        self.assertFalse(foe_shows(ENDING, (0, 1), [(), ()], [0, 0]))
        for wrong in (OFF, ON, [], (None,), (F, F), 0, False, ""):
            self.assertFalse(foe_shows(ENDING, (0, 1), [ON, wrong], [0, 0]))
        # There up must be 0, whatever the numbers are, also where the node is not come to.
        for down in (1, 9):
            self.assertFalse(foe_shows(ENDING, (1, down), [ON, ()], [0, 0]))
            self.assertFalse(foe_shows(ENDING, (1, down), [ON, ()], [99, 99]))
        whole = book(promises=(("not", ("before", A)),), wishes=((3, NO),))
        self.assertTrue(foe_shows(whole, (3, 1), [OFF, None], [0, None]))
        self.assertFalse(foe_shows(whole, (3, 1), [OFF, ()], [0, 0]))
        self.assertTrue(foe_shows(whole, (0, 3), [OFF, ()], [0, 0]))
        self.assertTrue(foe_shows(book(promises=(NO,)), (0, 1), [()], [0]))
        self.assertFalse(foe_shows(book(promises=(NO,)), (1, 99), [()], [99]))

    def test_forbidden_moves(self):
        whole = wide(promises=(A,), wishes=((2, ("not", A)),))
        for foe in ((T, F), (T, T)):
            self.assertTrue(foe_shows(whole, (2, 1), [foe], [0]))
        for foe in ((F, F), (F, T), (T,), (T, T, T), ()):
            self.assertFalse(foe_shows(whole, (0, 1), [foe], [0]))


class Told(unittest.TestCase):
    """What is told shows the mean; spoilt, it does not."""

    def sides(self, whole):
        return ((friend_shows, by_rows.friend_shows, friend_plan(whole)), (foe_shows, by_rows.foe_shows, foe_plan(whole)))

    def test_shown(self):
        for whole in told_books(150):
            up, down = mean(whole)
            for shows, by_word, (plan, paper) in self.sides(whole):
                self.assertIs(shows(whole, (up, down), plan, paper), True, whole)
                twice = [None if number is None else 2 * number for number in paper]
                self.assertIs(shows(whole, (2 * up, 2 * down), plan, twice), True, whole)
                higher = [None if number is None else number + 3 for number in paper]
                self.assertIs(shows(whole, (up, down), plan, higher), True, whole)

    def test_other_means(self):
        for whole in told_books(150):
            up, down = mean(whole)
            plan, paper = friend_plan(whole)
            for more in (1, 2, 50):
                self.assertIs(friend_shows(whole, (up + more, down), plan, paper), True, whole)
            for less in ((up - 1, down), (0, 1), (99 * up - 1, 99 * down)):
                if up:
                    self.assertIs(friend_shows(whole, less, plan, paper), False, whole)
            plan, paper = foe_plan(whole)
            for more in ((up + 1, down), (up + 50, down), (99 * up + 1, 99 * down)):
                self.assertIs(foe_shows(whole, more, plan, paper), False, whole)
            for lesser in range(max(0, up - 4), up):
                self.assertIs(foe_shows(whole, (lesser, down), plan, paper), True, whole)

    def test_numbers_made_less(self):
        spoilt = 0
        for whole in told_books(40):
            told = mean(whole)
            nodes = game(whole)
            for shows, by_word, (plan, paper) in self.sides(whole):
                for place, number in enumerate(paper):
                    if not number:
                        continue
                    for less in (number - 1, 0):
                        worse = changed(paper, place, less)
                        answer = shows(whole, told, plan, worse)
                        self.assertIs(answer, by_word(nodes, told, plan, worse), whole)
                        spoilt += not answer
        self.assertGreater(spoilt, 20)

    def test_none(self):
        for whole in told_books(40):
            told = mean(whole)
            nodes = game(whole)
            for shows, by_word, (plan, paper) in self.sides(whole):
                self.assertIs(shows(whole, told, changed(plan, 0, None), changed(paper, 0, None)), False)
                for place in range(len(nodes)):
                    if plan[place] is not None:
                        self.assertIs(shows(whole, told, changed(plan, place, None), paper), False)
                        self.assertIs(shows(whole, told, plan, changed(paper, place, None)), False)
                        without = (changed(plan, place, None), changed(paper, place, None))
                        self.assertIs(shows(whole, told, *without), by_word(nodes, told, *without))
                    else:
                        self.assertIs(shows(whole, told, plan, changed(paper, place, 0)), False)

    def test_other_rows_of_the_friend(self):
        answers = []
        for whole in told_books(40):
            told = mean(whole)
            nodes = game(whole)
            plan, paper = friend_plan(whole)
            for place, row in enumerate(plan):
                for at, pair in enumerate(row or ()):
                    for friend in by_words.settings(whole[1]):
                        other = changed(plan, place, row[:at] + ((pair[0], friend),) + row[at + 1:])
                        answer = friend_shows(whole, told, other, paper)
                        self.assertIs(answer, by_rows.friend_shows(nodes, told, other, paper), whole)
                        answers.append(answer)
                    for foe in by_words.settings(whole[0]):
                        if foe != pair[0]:
                            other = changed(plan, place, row[:at] + ((foe, pair[1]),) + row[at + 1:])
                            self.assertIs(friend_shows(whole, told, other, paper), False)
                    for wrong in (row[:at] + row[at + 1:], row[:at] + (pair,) + row[at:], row + (pair,)):
                        self.assertIs(friend_shows(whole, told, changed(plan, place, wrong), paper), False)
                if row is not None and len(row) > 1:
                    self.assertIs(friend_shows(whole, told, changed(plan, place, row[::-1]), paper), False)
                    self.assertIs(friend_shows(whole, told, changed(plan, place, list(row)), paper), False)
        self.assertIn(True, answers)
        self.assertIn(False, answers)

    def test_other_rows_of_the_foe(self):
        answers = []
        for whole in told_books(40):
            told = mean(whole)
            nodes = game(whole)
            plan, paper = foe_plan(whole)
            for place, row in enumerate(plan):
                if row is None:
                    continue
                for foe in by_words.settings(whole[0]) + [()]:
                    other = changed(plan, place, foe)
                    answer = foe_shows(whole, told, other, paper)
                    self.assertIs(answer, by_rows.foe_shows(nodes, told, other, paper), whole)
                    answers.append(answer)
        self.assertIn(True, answers)
        self.assertIn(False, answers)


class Kinds(unittest.TestCase):
    PLANS = ((friend_shows, ((OFF, OFF), (ON, OFF)), friend_plan), (foe_shows, OFF, foe_plan))

    def test_lists_alone(self):
        whole = book()
        for shows, row, ask in self.PLANS:
            self.assertIs(shows(whole, (0, 1), [row], [0]), True)
            for plan in (odd_things() + [(row,), row, [], [row, row], [row, None], {0: row}, {row}, [[row]], [row] * 9]):
                self.assertIs(shows(whole, (0, 1), plan, [0]), False)
                self.assertIs(shows(whole, (0, 1), plan, [0] * 9), False)
            for paper in odd_things() + [(0,), [], [0, 0], [0, None], {0: 0}, {0}, [[0]], [0] * 9, "0"]:
                self.assertIs(shows(whole, (0, 1), [row], paper), False)
                self.assertIs(shows(whole, (0, 1), paper, paper), False)
            self.assertIs(shows(whole, (0, 1), [row, row], [0, 0]), False)
            self.assertIs(shows(whole, (0, 1), [], []), False)

    def test_rows_of_other_kinds(self):
        whole = book()
        for shows, row, ask in self.PLANS:
            for thing in odd_things() + [(), ((),), (((),),), (OFF,), (OFF, OFF), (row,), [row]]:
                self.assertIs(shows(whole, (0, 1), [thing], [0]), False)

    def test_numbers_of_other_kinds(self):
        whole = book()
        for shows, row, ask in self.PLANS:
            for thing in (
                None, True, False, -1, -10 ** 30, 0.0, 1.5, float("inf"), "0", "", b"0", (), (0,), [0], {}, object(),
                Untouchable(), nested_tuples(),
            ):
                self.assertIs(shows(whole, (0, 1), [row], [thing]), False)

    def test_true_and_false_are_no_numbers(self):
        # They would be enough, were they numbers.
        for shows, row, ask in self.PLANS:
            whole = book(wishes=((1, ("before", YES)),)) if ask is friend_plan else book(
                wishes=((1, ("not", ("before", YES))),))
            told = (0, 1) if ask is friend_plan else (1, 1)
            self.assertIs(shows(whole, told, [row, row], [1, 0]), True)
            for paper in ([True, 0], [1, False], [True, False]):
                self.assertIs(shows(whole, told, [row, row], paper), False)

    def test_numbers_are_no_settings(self):
        whole = book()
        for foe, friend in (((0,), OFF), (OFF, (0,)), ((0.0,), OFF), (OFF, (0.0,)), ([F], OFF), (OFF, [F])):
            self.assertIs(friend_shows(whole, (0, 1), [((foe, friend), (ON, ON))], [0]), False)
        for foe, friend in (((1,), OFF), (OFF, (1,))):
            self.assertIs(friend_shows(whole, (0, 1), [((OFF, OFF), (foe, friend))], [0]), False)
        for foe in ((0,), (1,), (0.0,), [F], [T], 0, F):
            self.assertIs(foe_shows(whole, (0, 1), [foe], [0]), False)

    def test_pairs_of_other_kinds(self):
        whole = book()
        for pair in odd_things() + [(), (OFF,), (OFF, OFF, OFF), [OFF, OFF], (OFF, None), (None, OFF), (OFF, ()), ((), OFF),
                                    (OFF, (F, F)), ((F, F), OFF), (OFF, Untouchable()), (Untouchable(), OFF)]:
            self.assertIs(friend_shows(whole, (0, 1), [(pair, (ON, ON))], [0]), False)

    def test_a_lost_book_shows_nothing(self):
        whole = book(musts=(NO,))
        for shows, row, ask in self.PLANS:
            for plan, paper in (([row], [0]), ([None], [None]), ([()], [0]), ([None], [0]), (None, None)):
                self.assertIs(shows(whole, (0, 1), plan, paper), False)

    def test_no_book(self):
        for thing in no_books():
            with self.subTest(kind=type(thing).__name__):
                for shows, row, ask in self.PLANS:
                    for plan, paper in (([row], [0]), (None, None), (Untouchable(), Untouchable())):
                        with self.assertRaises(NoBook):
                            shows(thing, (0, 1), plan, paper)

    def test_what_was_handed_in_is_as_before(self):
        whole = copy.deepcopy(GIVEN)
        for shows, row, ask in self.PLANS:
            told = ask(whole)
            before = copy.deepcopy(told)
            for _ in range(2):
                self.assertIs(shows(whole, (0, 1), *told), True)
                self.assertEqual(told, before)
        self.assertEqual(whole, GIVEN)


if __name__ == "__main__":
    unittest.main()
