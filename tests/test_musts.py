import copy
import unittest

from leastloss.errors import NoBook
from leastloss.games import game
from leastloss.musts import breaking_moves, lost_in
from tests import by_words
from tests.things import A, B, NO, X, YES, book, deep, no_books, wide

T = True
F = False
OFF = (F,)
ON = (T,)


class MustsCase(unittest.TestCase):
    def told(self, whole, memories, turns, moves):
        """The nodes have these memories, are lost in these turns and by these moves."""
        self.assertEqual([node[0] for node in game(whole)], memories)
        self.assertEqual(lost_in(whole), turns)
        self.assertEqual(breaking_moves(whole), moves)


class NotLost(MustsCase):
    def test_without_musts(self):
        self.told(book(), [()], [None], [None])
        self.told(book(wishes=((9, ("before", X)),)), [(F,), (T,)], [None, None], [None, None])

    def test_musts_that_can_be_kept(self):
        self.told(book(musts=(("same", A, X),)), [()], [None], [None])
        self.told(book(musts=(("not", ("and", X, ("before", X))),)), [(F,), (T,)], [None, None], [None, None])

    def test_a_node_without_moves(self):
        self.told(book(promises=(NO,)), [()], [None], [None])
        self.told(book(promises=(NO,), musts=(NO,)), [()], [None], [None])
        self.told(book(promises=(("not", ("before", X)),), musts=(X,)), [(F,), (T,)], [None, None], [None, None])

    def test_the_promises_save_the_friend(self):
        self.told(book(promises=(("not", A),), musts=(("not", A),)), [()], [None], [None])

    def test_one_way_out_is_enough(self):
        whole = wide(musts=(("not", ("before", ("or", X, ("lamp", "y")))),))
        self.told(whole, [(F,), (T,)], [None, 1], [None, (F, F)])


class LostInOneTurn(MustsCase):
    def test_by_the_one_move(self):
        self.told(book(musts=(("not", A),)), [()], [1], [ON])
        self.told(book(musts=(A,)), [()], [1], [OFF])

    def test_the_first_of_several_moves(self):
        self.told(book(musts=(NO,)), [()], [1], [OFF])
        self.told(wide(musts=(("not", ("or", A, B)),)), [()], [1], [(F, T)])
        self.told(wide(musts=(("not", A),)), [()], [1], [(T, F)])

    def test_a_move_ahead_that_loses_later_is_not_told(self):
        # OFF leads back to this lost node, so it loses too, but in 2 turns.
        self.told(book(musts=(("not", A),)), [()], [1], [ON])

    def test_a_forbidden_move_does_not_count(self):
        self.told(wide(promises=(A,), musts=(NO,)), [()], [1], [(T, F)])

    def test_a_later_node(self):
        self.told(book(musts=(("not", ("and", A, ("before", X))),)), [(F,), (T,)], [None, 1], [None, ON])
        self.told(book(musts=(("not", ("and", ("not", A), ("before", X))),)), [(F,), (T,)], [None, 1], [None, OFF])


class LostInMoreTurns(MustsCase):
    def test_in_two(self):
        self.told(book(musts=(("not", ("before", A)),)), [(F,), (T,)], [2, 1], [ON, OFF])

    def test_whatever_the_friend_does(self):
        whole = book(musts=(("not", ("before", YES)),))
        self.told(whole, [(F,), (T,)], [2, 1], [OFF, OFF])

    def test_in_three(self):
        whole = book(musts=(("not", ("before", ("before", A))),))
        self.told(whole, [(F, F), (F, T), (T, F), (T, T)], [3, 2, 1, 1], [ON, OFF, OFF, OFF])

    def test_in_four_and_five(self):
        whole = book(musts=(("not", deep(4, "before", A)),))
        self.assertEqual(lost_in(whole)[0], 4)
        self.assertEqual(breaking_moves(whole)[0], ON)
        whole = book(musts=(("not", deep(5, "before", ("not", A))),))
        self.assertEqual(lost_in(whole)[0], 5)
        self.assertEqual(breaking_moves(whole)[0], OFF)

    def test_the_first_of_several_moves(self):
        whole = wide(musts=(("not", ("before", A)),))
        self.told(whole, [(F,), (T,)], [2, 1], [(T, F), (F, F)])
        whole = wide(musts=(("not", ("before", ("or", A, B))),))
        self.told(whole, [(F,), (T,)], [2, 1], [(F, T), (F, F)])

    def test_a_move_ahead_that_loses_later_is_not_told(self):
        # OFF loses too: behind it all is lost in 2. ON is what loses this node in 2.
        whole = book(musts=(("not", ("before", A)), ("not", ("before", ("before", ("not", A))))))
        self.told(
            whole, [(F, F, F), (F, F, T), (T, F, F), (F, T, T), (T, T, F)], [2, 2, 1, 1, 1], [ON, OFF, OFF, OFF, OFF])

    def test_all_answers_must_lose(self):
        # Behind x the foe breaks the must; without x ahead of it, it can't.
        whole = book(musts=(("not", ("before", ("and", A, X))),))
        self.told(whole, [(F,), (T,)], [None, 1], [None, OFF])
        # Here the friend must answer ON with x, and so it loses.
        whole = book(musts=(("then", A, X), ("not", ("before", ("and", A, X)))))
        self.told(whole, [(F,), (T,)], [2, 1], [ON, OFF])

    def test_the_answers_may_lose_in_unlike_turns(self):
        # Without x behind ON this is lost at the next turn, with x at the one behind it.
        lose = ("or", ("before", ("and", A, ("not", X))), ("before", ("before", ("and", A, X))))
        whole = book(musts=(("not", lose),))
        self.assertEqual(lost_in(whole)[0], 3)
        self.assertEqual(breaking_moves(whole)[0], ON)

    def test_nodes_of_one_round_do_not_count_for_one_another(self):
        # Node 1 and node 0 are told by the same look at what is lost: node 0 leads to node 1, that is lost in 2.
        whole = book(musts=(("not", ("before", ("before", A))),))
        nodes = game(whole)
        self.assertEqual([answer[2] for answer in nodes[0][1][1][1]], [1, 1])
        self.assertEqual(lost_in(whole)[:2], [3, 2])


class ManyBooks(MustsCase):
    def test_by_the_words(self):
        counts = {}
        for whole in by_words.some_books(1500):
            try:
                nodes = game(whole)
            except NoBook:
                continue
            told = by_words.lost(nodes)
            self.assertEqual(lost_in(whole), [turns for turns, move in told], whole)
            self.assertEqual(breaking_moves(whole), [move for turns, move in told], whole)
            for turns, move in told:
                counts[turns] = counts.get(turns, 0) + 1
        self.assertTrue(counts[None] and counts[1] and counts[2])


class Kinds(unittest.TestCase):
    def test_one_for_each_node(self):
        for whole in (book(), book(musts=(("not", ("before", ("before", A))),)), wide(wishes=((1, ("once", X)),))):
            for told in (lost_in(whole), breaking_moves(whole)):
                self.assertIs(type(told), list)
                self.assertEqual(len(told), len(game(whole)))

    def test_numbers_and_settings(self):
        whole = book(musts=(("not", ("before", A)),))
        self.assertEqual([type(turns) for turns in lost_in(whole)], [int, int])
        for setting in breaking_moves(whole):
            self.assertIs(type(setting), tuple)
            self.assertEqual([type(part) for part in setting], [bool])

    def test_no_book(self):
        for thing in no_books():
            with self.subTest(kind=type(thing).__name__):
                with self.assertRaises(NoBook):
                    lost_in(thing)
                with self.assertRaises(NoBook):
                    breaking_moves(thing)

    def test_a_new_list_each_time(self):
        whole = book(musts=(("not", ("before", A)),))
        before = copy.deepcopy(whole)
        for ask in (lost_in, breaking_moves):
            first = ask(whole)
            second = ask(whole)
            self.assertEqual(first, second)
            self.assertIsNot(first, second)
            first[0] = "changed"
            first.append(None)
            self.assertEqual(ask(whole), second)
            self.assertEqual(ask(before), second)
        self.assertEqual(whole, before)


if __name__ == "__main__":
    unittest.main()
