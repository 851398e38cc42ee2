import copy
import itertools
import random
import unittest

from leastloss.books import book_pieces
from leastloss.errors import NoBook, NoPlay
from leastloss.games import game, memory_behind
from leastloss.sayings import waiting
from tests import by_words
from tests.things import A, B, NO, X, Y, YES, Untouchable, book, no_books, no_plays, wide

T = True
F = False
OFF = (F,)
ON = (T,)
FOUR = [(F, F), (F, T), (T, F), (T, T)]


def wishing(*sayings):
    """A book that has just these wishes."""
    return book(wishes=tuple((1, saying) for saying in sayings))


def ways(node):
    """A node's moves without losses: for each foe's setting the friend's settings and the nodes they lead to."""
    return [(foe, [(friend, number) for friend, loss, number in answers]) for foe, answers in node[1]]


class Memory(unittest.TestCase):
    def test_without_past_pieces(self):
        for whole in (book(), book(promises=(A,), musts=(X,), wishes=((2, ("or", A, X)),))):
            for turns in range(4):
                self.assertEqual(memory_behind(whole, [(T, F)] * turns), ())

    def test_ahead_of_all_turns(self):
        for piece in (("before", X), ("once", X), ("since", A, X), ("before", YES), ("once", YES), ("since", YES, YES)):
            self.assertEqual(memory_behind(wishing(piece), []), (F,), piece)
        self.assertEqual(memory_behind(wishing(("sofar", X)), []), (T,))
        self.assertEqual(memory_behind(wishing(("sofar", NO)), []), (T,))
        self.assertEqual(
            memory_behind(wishing(("before", X), ("sofar", X), ("since", A, X), ("sofar", A)), []), (F, T, F, T))

    def along(self, piece, play):
        """The memory of a book with this one piece behind each turn, as a row of 1 and 0."""
        made = [memory_behind(wishing(piece), play[:turn + 1]) for turn in range(len(play))]
        for memory in made:
            self.assertIsInstance(memory, tuple)
            self.assertEqual([type(part) for part in memory], [bool])
        return "".join("1" if memory[0] else "0" for memory in made)

    def test_before(self):
        # Whether its saying held at that turn, not whether the piece did.
        self.assertEqual(self.along(("before", X), [(F, T), (F, F), (F, T), (F, T)]), "1011")
        self.assertEqual(self.along(("before", ("not", X)), [(F, T), (F, F), (F, T)]), "010")
        self.assertEqual(self.along(("before", YES), [(F, F)] * 3), "111")

    def test_once(self):
        self.assertEqual(self.along(("once", X), [(F, F), (F, T), (F, F), (F, F)]), "0111")
        self.assertEqual(self.along(("once", X), [(T, F), (T, F)]), "00")

    def test_sofar(self):
        self.assertEqual(self.along(("sofar", X), [(F, T), (F, T), (F, F), (F, T)]), "1100")
        self.assertEqual(self.along(("sofar", X), [(T, F), (T, T)]), "00")

    def test_since(self):
        self.assertEqual(self.along(("since", A, X), [(T, F), (F, T), (T, F), (F, F), (T, F), (F, T)]), "011001")

    def test_pieces_within_pieces(self):
        outer = ("before", ("before", X))
        play = [(F, T), (F, F), (F, T), (F, T)]
        made = [memory_behind(wishing(outer), play[:turn]) for turn in range(5)]
        self.assertEqual(made, [(F, F), (F, T), (T, F), (F, T), (T, T)])
        piece = ("once", ("and", A, ("before", X)))
        play = [(T, T), (F, T), (T, F), (F, F)]
        made = [memory_behind(wishing(piece), play[:turn]) for turn in range(5)]
        self.assertEqual(made, [(F, F), (F, T), (F, T), (T, F), (T, F)])
        piece = ("before", ("sofar", X))
        play = [(F, T), (F, F), (F, T)]
        made = [memory_behind(wishing(piece), play[:turn]) for turn in range(4)]
        self.assertEqual(made, [(F, T), (T, T), (F, F), (F, F)])

    def test_in_the_order_of_the_pieces(self):
        whole = wide(
            promises=(("before", Y),), musts=(("once", A),), wishes=((1, ("sofar", B)), (1, ("not", ("before", X)))))
        self.assertEqual(book_pieces(whole), [("before", Y), ("once", A), ("sofar", B), ("before", X)])
        self.assertEqual(memory_behind(whole, []), (F, F, T, F))
        self.assertEqual(memory_behind(whole, [(T, T, F, F)]), (F, T, T, F))
        self.assertEqual(memory_behind(whole, [(F, F, F, T)]), (T, F, F, F))
        self.assertEqual(memory_behind(whole, [(F, T, T, F)]), (F, F, T, T))
        self.assertEqual(memory_behind(whole, [(T, F, F, F), (F, T, T, T)]), (T, T, F, T))

    def test_behind_what_is_broken(self):
        whole = book(promises=(NO,), musts=(NO,), wishes=((1, ("once", X)),))
        self.assertEqual(memory_behind(whole, [(F, T), (F, F)]), (T,))

    def test_behind_many_turns(self):
        self.assertEqual(memory_behind(wishing(("once", X), ("sofar", A)), [(T, T)] + [(T, F)] * 5000), (T, T))

    def test_by_the_words(self):
        draw = random.Random(7)
        for whole in by_words.some_books(200):
            try:
                pieces = book_pieces(whole)
            except NoBook:
                continue
            play = [draw.choice(by_words.settings(whole[0] + whole[1])) for _ in range(6)]
            for turns in range(7):
                self.assertEqual(memory_behind(whole, play[:turns]), by_words.memory(whole, pieces, play[:turns]))

    def test_no_book_ahead_of_no_play(self):
        for thing in no_books():
            with self.subTest(kind=type(thing).__name__):
                for play in ([], [(T, T)], None, Untouchable()):
                    with self.assertRaises(NoBook):
                        memory_behind(thing, play)

    def test_no_play(self):
        for whole in (book(), wishing(("once", X)), wide()):
            for thing in no_plays(len(whole[0] + whole[1])):
                with self.subTest(kind=type(thing).__name__):
                    with self.assertRaises(NoPlay):
                        memory_behind(whole, thing)

    def test_what_was_handed_in_is_as_before(self):
        whole = wishing(("once", X), ("before", A))
        before = copy.deepcopy(whole)
        play = [(T, F), (F, T)]
        first = memory_behind(whole, play)
        self.assertEqual(play, [(T, F), (F, T)])
        self.assertEqual(whole, before)
        self.assertEqual(memory_behind(before, list(play)), first)


class OneNode(unittest.TestCase):
    def test_without_past_pieces(self):
        self.assertEqual(
            game(book(wishes=((3, X),))),
            [((), (
                (OFF, ((OFF, 3, 0), (ON, 0, 0))),
                (ON, ((OFF, 3, 0), (ON, 0, 0))),
            ))])

    def test_settings_in_order_with_two_lamps(self):
        nodes = game(wide())
        self.assertEqual(len(nodes), 1)
        self.assertEqual([foe for foe, answers in nodes[0][1]], FOUR)
        for foe, answers in nodes[0][1]:
            self.assertEqual(answers, tuple((friend, 0, 0) for friend in FOUR))

    def test_lamps_of_unlike_number(self):
        nodes = game(book(foe=("a", "b")))
        self.assertEqual(nodes, [((), tuple((foe, ((OFF, 0, 0), (ON, 0, 0))) for foe in FOUR))])
        nodes = game(book(friend=("x", "y")))
        self.assertEqual(nodes, [((), tuple((foe, tuple((friend, 0, 0) for friend in FOUR)) for foe in (OFF, ON)))])

    def test_what_promises_forbid_is_no_move(self):
        answers = ((OFF, 0, 0), (ON, 0, 0))
        self.assertEqual(game(book(promises=(A,))), [((), ((ON, answers),))])
        self.assertEqual(game(book(promises=(("not", A),))), [((), ((OFF, answers),))])
        whole = wide(promises=(("or", A, B), ("not", ("and", A, B))))
        self.assertEqual([foe for foe, told in game(whole)[0][1]], [(F, T), (T, F)])

    def test_what_musts_forbid_is_no_answer(self):
        self.assertEqual(
            game(book(musts=(("same", A, X),))), [((), ((OFF, ((OFF, 0, 0),)), (ON, ((ON, 0, 0),))))])
        whole = wide(musts=(("or", X, Y), ("not", ("and", X, Y))))
        for foe, answers in game(whole)[0][1]:
            self.assertEqual([answer[0] for answer in answers], [(F, T), (T, F)])

    def test_a_move_without_answers(self):
        self.assertEqual(
            game(book(musts=(("not", A),))), [((), ((OFF, ((OFF, 0, 0), (ON, 0, 0))), (ON, ())))])
        self.assertEqual(game(book(musts=(NO,))), [((), ((OFF, ()), (ON, ())))])

    def test_a_node_without_moves(self):
        self.assertEqual(game(book(promises=(NO,))), [((), ())])
        self.assertEqual(game(book(promises=(NO,), musts=(NO,))), [((), ())])
        self.assertEqual(game(book(promises=(A, ("not", A)))), [((), ())])
        self.assertEqual(game(book(promises=(("before", X),))), [((F,), ())])

    def test_losses(self):
        whole = book(wishes=((1, A), (10, X), (40, ("same", A, X))))
        self.assertEqual(
            game(whole), [((), ((OFF, ((OFF, 11, 0), (ON, 41, 0))), (ON, ((OFF, 50, 0), (ON, 0, 0)))))])
        self.assertEqual(
            game(book(wishes=((99, NO),) * 5)),
            [((), ((OFF, ((OFF, 495, 0), (ON, 495, 0))), (ON, ((OFF, 495, 0), (ON, 495, 0)))))])

    def test_a_piece_whose_memory_never_changes(self):
        self.assertEqual([node[0] for node in game(wishing(("once", NO)))], [(F,)])
        self.assertEqual([node[0] for node in game(wishing(("sofar", YES)))], [(T,)])

    def test_nodes_to_which_musts_bar_the_way_do_not_come(self):
        self.assertEqual(
            game(book(musts=(("not", X),), wishes=((4, ("before", X)),))),
            [((F,), ((OFF, ((OFF, 4, 0),)), (ON, ((OFF, 4, 0),))))])

    def test_nodes_to_which_promises_bar_the_way_do_not_come(self):
        self.assertEqual([node[0] for node in game(book(promises=(A,), wishes=((4, ("sofar", A)),)))], [(T,)])


class MoreNodes(unittest.TestCase):
    def test_one_piece(self):
        whole = book(musts=(("not", ("and", X, ("before", X))),), wishes=((5, ("then", A, X)),))
        self.assertEqual(game(whole), [
            ((F,), ((OFF, ((OFF, 0, 0), (ON, 0, 1))), (ON, ((OFF, 5, 0), (ON, 0, 1))))),
            ((T,), ((OFF, ((OFF, 0, 0),)), (ON, ((OFF, 5, 0),)))),
        ])

    def test_a_promise_about_what_the_friend_did(self):
        whole = book(promises=(("then", ("before", X), A),), wishes=((2, ("before", X)),))
        self.assertEqual(game(whole), [
            ((F,), ((OFF, ((OFF, 2, 0), (ON, 2, 1))), (ON, ((OFF, 2, 0), (ON, 2, 1))))),
            ((T,), ((ON, ((OFF, 0, 0), (ON, 0, 1))),)),
        ])

    def test_a_later_node_without_moves(self):
        whole = book(promises=(("not", ("before", X)),), wishes=((2, ("not", X)),))
        self.assertEqual(game(whole), [
            ((F,), ((OFF, ((OFF, 0, 0), (ON, 2, 1))), (ON, ((OFF, 0, 0), (ON, 2, 1))))),
            ((T,), ()),
        ])

    def test_a_later_move_without_answers(self):
        whole = book(musts=(("not", ("and", A, ("before", X))),))
        self.assertEqual(game(whole), [
            ((F,), ((OFF, ((OFF, 0, 0), (ON, 0, 1))), (ON, ((OFF, 0, 0), (ON, 0, 1))))),
            ((T,), ((OFF, ((OFF, 0, 0), (ON, 0, 1))), (ON, ()))),
        ])

    def test_the_first_memory_of_sofar(self):
        self.assertEqual(game(wishing(("sofar", X))), [
            ((T,), ((OFF, ((OFF, 1, 1), (ON, 0, 0))), (ON, ((OFF, 1, 1), (ON, 0, 0))))),
            ((F,), ((OFF, ((OFF, 1, 1), (ON, 1, 1))), (ON, ((OFF, 1, 1), (ON, 1, 1))))),
        ])

    def test_since(self):
        self.assertEqual(game(book(wishes=((6, waiting(A, X)),))), [
            ((F,), ((OFF, ((OFF, 0, 0), (ON, 0, 0))), (ON, ((OFF, 6, 1), (ON, 0, 0))))),
            ((T,), ((OFF, ((OFF, 6, 1), (ON, 0, 0))), (ON, ((OFF, 6, 1), (ON, 0, 0))))),
        ])

    def test_numbers_go_by_moves_and_answers_and_not_by_memories(self):
        self.assertEqual(
            [node[0] for node in game(wishing(("before", A), ("before", X)))], [(F, F), (F, T), (T, F), (T, T)])
        self.assertEqual(
            [node[0] for node in game(wishing(("before", X), ("before", A)))], [(F, F), (T, F), (F, T), (T, T)])
        self.assertEqual(
            [node[0] for node in game(wishing(("before", ("not", A)), ("before", ("not", X))))],
            [(F, F), (T, T), (T, F), (F, T)])

    def test_all_of_a_node_is_met_ahead_of_what_is_behind(self):
        nodes = game(wishing(("before", ("before", X)), ("before", A)))
        self.assertEqual(
            [node[0] for node in nodes],
            [(F, F, F), (F, T, F), (F, F, T), (F, T, T), (T, F, F), (T, T, F), (T, F, T), (T, T, T)])
        self.assertEqual(ways(nodes[0]), [(OFF, [(OFF, 0), (ON, 1)]), (ON, [(OFF, 2), (ON, 3)])])
        self.assertEqual(ways(nodes[1]), [(OFF, [(OFF, 4), (ON, 5)]), (ON, [(OFF, 6), (ON, 7)])])
        self.assertEqual(ways(nodes[4]), [(OFF, [(OFF, 0), (ON, 1)]), (ON, [(OFF, 2), (ON, 3)])])

    def test_sixteen_nodes(self):
        whole = wide(wishes=tuple((1, ("before", lamp)) for lamp in (A, B, X, Y)))
        nodes = game(whole)
        self.assertEqual([node[0] for node in nodes], list(itertools.product((F, T), repeat=4)))
        for node in nodes:
            self.assertEqual([foe for foe, answers in node[1]], FOUR)
            wanted = 4 - sum(node[0])
            for place, (foe, answers) in enumerate(node[1]):
                self.assertEqual(
                    answers, tuple((friend, wanted, 4 * place + number) for number, friend in enumerate(FOUR)))

    def test_by_the_words(self):
        seen = 0
        for whole in by_words.some_books(600):
            try:
                pieces = book_pieces(whole)
            except NoBook:
                continue
            seen += 1
            self.assertEqual(game(whole), by_words.game(whole, pieces), whole)
        self.assertGreater(seen, 200)


class Kinds(unittest.TestCase):
    def test_tuples_in_a_list(self):
        nodes = game(book(musts=(("not", ("and", X, ("before", X))),)))
        self.assertIs(type(nodes), list)
        for node in nodes:
            self.assertEqual([type(part) for part in node], [tuple, tuple])
            self.assertIs(type(node), tuple)
            for move in node[1]:
                self.assertIs(type(move), tuple)
                self.assertEqual([type(part) for part in move], [tuple, tuple])
                for answer in move[1]:
                    self.assertIs(type(answer), tuple)
                    self.assertEqual([type(part) for part in answer], [tuple, int, int])

    def test_no_book(self):
        for thing in no_books():
            with self.subTest(kind=type(thing).__name__):
                with self.assertRaises(NoBook):
                    game(thing)

    def test_a_new_list_each_time(self):
        whole = wishing(("once", X))
        before = copy.deepcopy(whole)
        first = game(whole)
        second = game(whole)
        self.assertEqual(first, second)
        self.assertIsNot(first, second)
        first.append(None)
        first[0] = None
        self.assertEqual(game(whole), second)
        self.assertEqual(game(before), second)
        self.assertEqual(whole, before)


if __name__ == "__main__":
    unittest.main()
