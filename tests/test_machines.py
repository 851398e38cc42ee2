import copy
import itertools
import random
import unittest

from leastloss.books import is_book
from leastloss.errors import Lost, NoBook, NoMachine, NoPlay
from leastloss.games import game
from leastloss.machines import best_machine, checked_machine, lesser, run
from leastloss.means import friend_plan, mean
from leastloss.musts import lost_in
from tests import by_rows, by_words
from tests.some_machines import BLINK, COPY, LATE, OFF, ON, no_machines, some_machine
from tests.things import A, NO, X, YES, Untouchable, book, no_books, odd_things, wide

T = True
F = False
BOOK = book()


class Checked(unittest.TestCase):
    def test_machines(self):
        for machine in (COPY, LATE, BLINK, COPY * 64, LATE * 32, ((((T,), 0), ((T,), 0)),)):
            self.assertIs(checked_machine(BOOK, machine), machine)

    def test_more_lamps(self):
        one = (((F, F), 0), ((F, T), 0))
        self.assertEqual(checked_machine(book(friend=("x", "y")), (one,)), (one,))
        four = tuple((OFF, 0) for _ in range(4))
        self.assertEqual(checked_machine(book(foe=("a", "b")), (four,)), (four,))
        both = tuple(((F, T), 1) for _ in range(4))
        self.assertEqual(checked_machine(wide(), (both, both)), (both, both))
        for whole, machine in (
            (BOOK, (one,)), (BOOK, (four,)), (wide(), COPY), (wide(), (one,)), (wide(), (four,)), (wide(), (both,)),
            (wide(), (both[:3],) * 2), (wide(), (both + both[:1],) * 2), (book(foe=("a", "b")), COPY),
            (book(friend=("x", "y")), COPY),
        ):
            with self.assertRaises(NoMachine):
                checked_machine(whole, machine)

    def test_how_many_stands(self):
        for stands in (1, 2, 63, 64):
            last = ((OFF, stands - 1), (ON, 0))
            self.assertEqual(checked_machine(BOOK, (last,) * stands), (last,) * stands)
            for number in (stands, stands + 1):
                with self.assertRaises(NoMachine):
                    checked_machine(BOOK, (((OFF, number), (ON, 0)),) * stands)
        for stands in (0, 65, 66, 1000):
            with self.assertRaises(NoMachine):
                checked_machine(BOOK, COPY * stands)

    def test_no_machine_and_no_other_error(self):
        for machine in no_machines():
            for ask in (checked_machine, lesser):
                with self.assertRaises(NoMachine):
                    ask(BOOK, machine)

    def test_the_book_may_be_lost(self):
        whole = book(musts=(NO,))
        self.assertEqual(checked_machine(whole, LATE), LATE)
        self.assertEqual(lesser(whole, LATE), LATE)
        self.assertEqual(run(whole, LATE, [ON]), [(T, F)])

    def test_no_book_ahead_of_all(self):
        for thing in no_books():
            with self.subTest(kind=type(thing).__name__):
                for machine in (COPY, (), None, Untouchable()):
                    with self.assertRaises(NoBook):
                        checked_machine(thing, machine)
                    with self.assertRaises(NoBook):
                        lesser(thing, machine)
                    for sets in ([], None, Untouchable()):
                        with self.assertRaises(NoBook):
                            run(thing, machine, sets)


class Run(unittest.TestCase):
    def test_no_settings(self):
        for machine in (COPY, LATE, BLINK):
            self.assertEqual(run(BOOK, machine, []), [])

    def test_one_stand(self):
        self.assertEqual(run(BOOK, COPY, [ON, OFF, OFF, ON]), [(T, T), (F, F), (F, F), (T, T)])

    def test_several_stands(self):
        self.assertEqual(run(BOOK, LATE, [ON, OFF, OFF, ON, ON]), [(T, F), (F, T), (F, F), (T, F), (T, T)])
        self.assertEqual(run(BOOK, BLINK, [ON, ON, OFF]), [(T, F), (T, T), (F, F)])

    def test_the_foe_may_break_its_promises(self):
        self.assertEqual(run(book(promises=(NO,)), COPY, [ON, OFF]), [(T, T), (F, F)])

    def test_two_lamps(self):
        # Changes the lamps about at even turns, and leaves them at odd ones.
        four = by_words.settings("ab")
        machine = (tuple((setting[::-1], 1) for setting in four), tuple((setting, 0) for setting in four))
        self.assertEqual(
            run(wide(), machine, [(T, F), (T, F), (F, T), (T, T)]),
            [(T, F, F, T), (T, F, T, F), (F, T, T, F), (T, T, T, T)])

    def test_unlike_numbers_of_lamps(self):
        whole = book(foe=("a", "b"), friend=("x",))
        machine = (tuple(((setting[0] and setting[1],), 0) for setting in by_words.settings("ab")),)
        self.assertEqual(run(whole, machine, [(T, T), (T, F)]), [(T, T, T), (T, F, F)])
        whole = book(foe=("a",), friend=("x", "y"))
        machine = ((((F, T), 0), ((T, F), 0)),)
        self.assertEqual(run(whole, machine, [ON, OFF]), [(T, T, F), (F, F, T)])

    def test_many_turns(self):
        self.assertEqual(run(BOOK, BLINK, [ON] * 4001)[-2:], [(T, T), (T, F)])

    def test_by_the_words(self):
        draw = random.Random(3)
        for whole in (BOOK, book(foe=("a", "b")), wide()):
            for _ in range(40):
                machine = some_machine(draw, whole, 5)
                sets = [draw.choice(by_words.settings(whole[0])) for _ in range(draw.randrange(9))]
                friends = by_rows.made_of(whole[0], machine, 0, sets)
                self.assertEqual(run(whole, machine, sets), [foe + friend for foe, friend in zip(sets, friends)])

    def test_no_play(self):
        wrong = odd_things() + [(), (OFF,), OFF, {0: OFF}, {OFF}, iter([OFF]), "F"]
        settings = odd_things() + [(), (F, F), (0,), (1,), (0.0,), (None,), [F], ("F",), (OFF,), (Untouchable(),)]
        for setting in settings:
            wrong.extend([[setting], [OFF, setting], [setting, OFF]])
        for sets in wrong:
            if not (isinstance(sets, list) and len(sets) == 0):
                with self.assertRaises(NoPlay):
                    run(BOOK, COPY, sets)
        for sets in ([OFF], [(F, F, F)], [(F, F, F, F)], [(F, F), OFF]):
            with self.assertRaises(NoPlay):
                run(wide(), (tuple(((F, F), 0) for _ in range(4)),), sets)

    def test_no_machine_ahead_of_no_play(self):
        for machine in no_machines():
            for sets in ([], None, [None]):
                with self.assertRaises(NoMachine):
                    run(BOOK, machine, sets)


class Lesser(unittest.TestCase):
    def test_least_already(self):
        for machine in (COPY, LATE, BLINK):
            self.assertEqual(lesser(BOOK, machine), machine)

    def test_stands_that_set_the_same(self):
        self.assertEqual(lesser(BOOK, COPY * 3), COPY)
        self.assertEqual(lesser(BOOK, (((OFF, 1), (ON, 2)), ((OFF, 2), (ON, 0)), ((OFF, 0), (ON, 1)))), COPY)
        self.assertEqual(lesser(BOOK, BLINK[:1] + (((ON, 2), (ON, 2)),) + (((OFF, 1), (OFF, 1)),)), BLINK)
        self.assertEqual(lesser(BOOK, COPY * 64), COPY)

    def test_stands_that_set_the_same_for_some_turns_alone(self):
        # On at each third turn, and at each fourth: only later turns tell the stands apart.
        for size in (3, 4, 9, 64):
            ring = tuple((((number == 0,), (number + 1) % size),) * 2 for number in range(size))
            self.assertEqual(lesser(BOOK, ring), ring)
        chain = tuple((((number == 63,), min(number + 1, 63)),) * 2 for number in range(64))
        self.assertEqual(lesser(BOOK, chain), chain)

    def test_stands_that_never_come(self):
        self.assertEqual(lesser(BOOK, COPY + (((ON, 1), (ON, 1)),)), COPY)
        self.assertEqual(lesser(BOOK, LATE + (((OFF, 0), (ON, 1)), ((ON, 2), (OFF, 2)))), LATE)
        # A stand that never comes lies ahead of one that does.
        self.assertEqual(
            lesser(BOOK, (((OFF, 2), (OFF, 2)), ((OFF, 1), (ON, 0)), ((ON, 0), (ON, 0)))), BLINK)

    def test_stands_numbered_otherwise(self):
        three = (((OFF, 1), (OFF, 2)), ((ON, 1), (OFF, 0)), ((ON, 2), (ON, 0)))
        self.assertEqual(lesser(BOOK, three), three)
        other = (((OFF, 2), (OFF, 1)), ((ON, 1), (ON, 0)), ((ON, 2), (OFF, 0)))
        self.assertEqual(lesser(BOOK, other), three)

    def test_shorter_rows_come_first(self):
        # Stand 1 is led to by ON; stand 2 by OFF and ON, that is ahead as a tuple and longer as a row.
        told = (((OFF, 0), (OFF, 1)), ((ON, 0), (OFF, 2)), ((ON, 2), (ON, 2)))
        for order in itertools.permutations((1, 2)):
            place = (0,) + order
            stands = [None] * 3
            for number, stand in enumerate(told):
                stands[place[number]] = tuple((friend, place[behind]) for friend, behind in stand)
            self.assertEqual(lesser(BOOK, tuple(stands)), told)
        # From 0 OFF leads to the first, ON to the second; the third comes by (OFF, OFF), the fourth by (ON, OFF).
        told = (((OFF, 1), (OFF, 2)), ((OFF, 3), (ON, 0)), ((ON, 4), (ON, 0)), ((ON, 3), (OFF, 0)), ((OFF, 4), (OFF, 4)))
        for order in itertools.permutations((1, 2, 3, 4)):
            place = (0,) + order
            stands = [None] * 5
            for number, stand in enumerate(told):
                stands[place[number]] = tuple((friend, place[behind]) for friend, behind in stand)
            self.assertEqual(lesser(BOOK, tuple(stands)), told)

    def test_by_the_words(self):
        draw = random.Random(11)
        sizes = set()
        for whole, most, number in ((BOOK, 6, 300), (book(friend=("x", "y")), 5, 100), (book(foe=("a", "b")), 4, 60)):
            for _ in range(number):
                machine = some_machine(draw, whole, most)
                told = lesser(whole, machine)
                self.assertEqual(told, by_rows.lesser(whole[0], machine), machine)
                self.assertEqual(checked_machine(whole, told), told)
                self.assertEqual(lesser(whole, told), told)
                for row in by_rows.setting_rows(whole[0], 4):
                    self.assertEqual(run(whole, told, list(row)), run(whole, machine, list(row)))
                sizes.add((len(machine), len(told)))
        self.assertTrue({(6, 1), (6, 6), (5, 2), (4, 4)} <= sizes)

    def test_doubled_machines(self):
        # Each stand twice, led to now in one place and now in the other, in any order: the least one is the same.
        draw = random.Random(12)
        for _ in range(60):
            machine = lesser(wide(), some_machine(draw, wide(), 20))
            size = len(machine)
            order = [0] + draw.sample(range(1, 2 * size), 2 * size - 1)
            stands = [None] * (2 * size)
            for number in range(2 * size):
                ways = machine[number % size]
                stands[order[number]] = tuple(
                    (friend, order[behind + size * draw.randrange(2)]) for friend, behind in ways)
            self.assertEqual(lesser(wide(), tuple(stands)), machine)


class Best(unittest.TestCase):
    def test_one_stand(self):
        self.assertEqual(best_machine(book(wishes=((3, ("same", A, X)),))), COPY)
        self.assertEqual(best_machine(book(wishes=((3, X),))), (((ON, 0), (ON, 0)),))
        self.assertEqual(best_machine(book(musts=(X,))), (((ON, 0), (ON, 0)),))

    def test_several_stands(self):
        self.assertEqual(best_machine(book(wishes=((3, ("same", X, ("before", A))),))), LATE)
        self.assertEqual(best_machine(book(musts=(("same", X, ("before", ("not", X))),))), BLINK)

    def test_nodes_that_set_the_same_are_one_stand(self):
        whole = book(musts=(("same", A, X),), wishes=((1, ("before", YES)), (2, ("once", A))))
        self.assertGreater(len(game(whole)), 2)
        self.assertEqual(best_machine(whole), COPY)

    def test_lamps_off_at_what_is_no_move(self):
        self.assertEqual(best_machine(book(promises=(A,), wishes=((3, X),))), (((OFF, 0), (ON, 0)),))
        self.assertEqual(best_machine(book(promises=(("not", A),), wishes=((3, X),))), (((ON, 0), (OFF, 0)),))
        whole = wide(promises=(("same", A, ("lamp", "b")),), musts=(X,), wishes=((3, ("lamp", "y")),))
        self.assertEqual(best_machine(whole), ((((T, T), 0), ((F, F), 0), ((F, F), 0), ((T, T), 0)),))

    def test_it_stays_at_what_is_no_move(self):
        # The foe is to set its lamp by turns, ON first; x is to be on at all turns.
        whole = book(promises=(("same", A, ("not", ("before", A))),), musts=(X,))
        self.assertEqual(best_machine(whole), (((OFF, 0), (ON, 1)), ((ON, 0), (OFF, 1))))

    def test_where_the_foe_has_no_move(self):
        self.assertEqual(best_machine(book(promises=(NO,), wishes=((3, X),))), (((OFF, 0), (OFF, 0)),))
        whole = book(promises=(("not", ("before", YES)),), musts=(X,))
        self.assertEqual(best_machine(whole), (((ON, 1), (ON, 1)), ((OFF, 1), (OFF, 1))))

    def test_as_the_told_plan(self):
        for whole in by_words.some_books(200) + by_words.some_moving_books(200):
            if not is_book(whole) or lost_in(whole)[0] is not None:
                continue
            nodes = game(whole)
            plan = friend_plan(whole)[0]
            off = (F,) * len(whole[1])
            stands = [None] * len(nodes)
            for number, row in enumerate(plan):
                ways = []
                for foe in by_words.settings(whole[0]):
                    friend = dict(row or ()).get(foe)
                    to = [answer[2] for answer in dict(nodes[number][1]).get(foe, ()) if answer[0] == friend]
                    ways.append((friend, to[0]) if to else (off, number))
                stands[number] = tuple(ways)
            self.assertEqual(best_machine(whole), lesser(whole, tuple(stands)), whole)

    def test_against_all_the_foe_may_do(self):
        counts = {}
        for whole in by_words.some_books(150) + by_words.some_moving_books(150):
            if not is_book(whole):
                continue
            if lost_in(whole)[0] is not None:
                self.assertRaises(Lost, best_machine, whole)
                continue
            machine = best_machine(whole)
            self.assertEqual(checked_machine(whole, machine), machine)
            self.assertEqual(lesser(whole, machine), machine)
            up, down = mean(whole)
            first = friend_plan(whole)[1][0]
            turns = 6 if len(whole[0]) == 1 else 3
            for play in by_rows.plays_against(whole, machine, turns):
                self.assertEqual(run(whole, machine, [setting[:len(whole[0])] for setting in play]), play)
                lost = 0
                for turn in range(1, len(play) + 1):
                    self.assertTrue(by_words.keeps(whole, whole[3], play[:turn]), whole)
                    lost += by_words.loss(whole, play[:turn])
                    self.assertLessEqual(down * lost, up * turn + first, whole)
            counts[len(machine)] = counts.get(len(machine), 0) + 1
        self.assertTrue(counts[1] and counts[2] and counts[3])

    def test_lost(self):
        for whole in (book(musts=(NO,)), book(musts=(A,)), book(musts=(("not", ("before", YES)),))):
            with self.assertRaises(Lost):
                best_machine(whole)

    def test_no_book(self):
        for thing in no_books() + [book(musts=(NO,), wishes=()), book(musts=(NO,) * 4)]:
            with self.subTest(kind=type(thing).__name__):
                with self.assertRaises(NoBook):
                    best_machine(thing)


class Kinds(unittest.TestCase):
    def test_all_are_tuples(self):
        whole = book(wishes=((3, ("same", X, ("before", A))),))
        for machine in (best_machine(whole), lesser(whole, LATE * 3)):
            self.assertEqual(checked_machine(whole, machine), machine)
            for stand in machine:
                self.assertIs(type(stand), tuple)
                for way in stand:
                    self.assertEqual([type(part) for part in way], [tuple, int])

    def test_a_new_play_each_time(self):
        sets = [ON, OFF]
        first = run(BOOK, LATE, sets)
        second = run(BOOK, LATE, sets)
        self.assertIs(type(first), list)
        self.assertEqual(first, second)
        self.assertIsNot(first, second)
        first[0] = "changed"
        first.append(None)
        self.assertEqual(run(BOOK, LATE, sets), second)
        self.assertEqual(sets, [ON, OFF])

    def test_what_was_handed_in_is_as_before(self):
        whole = copy.deepcopy(BOOK)
        machine = copy.deepcopy(COPY * 2)
        lesser(whole, machine)
        run(whole, machine, [ON])
        best_machine(whole)
        self.assertEqual((whole, machine), (BOOK, COPY * 2))
        self.assertEqual(best_machine(whole), best_machine(BOOK))
        self.assertEqual(lesser(whole, machine), lesser(BOOK, COPY * 2))


if __name__ == "__main__":
    unittest.main()
