import copy
import math
import random
import unittest
from fractions import Fraction

from leastloss.books import is_book
from leastloss.errors import NoBook, NoMachine
from leastloss.games import game
from leastloss.judging import judged
from leastloss.machines import best_machine, run
from leastloss.musts import lost_in
from leastloss.plays import first_breaks, losses
from tests import by_rows, by_words
from tests.some_machines import BLINK, COPY, DARK, LATE, LIGHT, OFF, ON, in_line, no_machines, some_machine
from tests.things import A, B, NO, X, Y, YES, Untouchable, book, deep, no_books, wide

T = True
F = False


class JudgingCase(unittest.TestCase):
    def fits(self, whole, machine, told):
        """What is told as a mean is so in itself: kinds, plays, losses."""
        self.assertIs(type(told), tuple)
        word, (up, down), head, ring = told
        self.assertEqual(word, "mean")
        self.assertEqual((type(told[1]), type(up), type(down)), (tuple, int, int))
        self.assertEqual((type(head), type(ring)), (list, list))
        self.assertEqual(math.gcd(up, down), 1)
        self.assertTrue(up >= 0 and down >= 1)
        play = head + ring * 3
        self.assertEqual(run(whole, machine, [setting[:len(whole[0])] for setting in play]), play)
        self.assertEqual(first_breaks(whole, play), (None, None))
        if ring:
            found = losses(whole, play)
            for lap in range(3):
                start = len(head) + lap * len(ring)
                self.assertEqual(Fraction(sum(found[start:start + len(ring)]), len(ring)), Fraction(up, down))
        else:
            self.assertEqual((up, down), (0, 1))
            self.assertEqual(by_words.foe_moves(whole, head), [])

    def has_mean(self, whole, machine, mean):
        told = judged(whole, machine)
        self.fits(whole, machine, told)
        self.assertEqual(told[1], mean)
        return told


class Breaks(unittest.TestCase):
    def test_at_the_first_turn(self):
        self.assertEqual(judged(book(musts=(X,)), DARK), ("breaks", [(F, F)]))
        self.assertEqual(judged(book(musts=(NO,)), LIGHT), ("breaks", [(F, T)]))
        self.assertEqual(judged(book(musts=(A,)), COPY), ("breaks", [(F, F)]))
        self.assertEqual(judged(book(musts=(("not", X),)), COPY), ("breaks", [(T, T)]))

    def test_at_a_later_turn(self):
        self.assertEqual(judged(book(musts=(("not", ("before", A)),)), COPY), ("breaks", [(T, T), (F, F)]))
        self.assertEqual(judged(book(musts=(("not", X),)), BLINK), ("breaks", [(F, F), (F, T)]))
        self.assertEqual(judged(book(musts=(("not", X),)), LATE), ("breaks", [(T, F), (F, T)]))
        self.assertEqual(
            judged(book(musts=(("not", ("before", ("before", A))),)), DARK), ("breaks", [(T, F), (F, F), (F, F)]))

    def test_many_turns_later(self):
        for stands in (2, 10, 64):
            machine = in_line(stands, OFF, ON)
            self.assertEqual(
                judged(book(musts=(("not", X),)), machine), ("breaks", [(F, F)] * (stands - 1) + [(F, T)]))

    def test_the_first_of_several(self):
        whole = book(musts=(("not", ("before", ("or", A, X))),))
        self.assertEqual(judged(whole, LIGHT), ("breaks", [(F, T), (F, T)]))
        self.assertEqual(judged(whole, DARK), ("breaks", [(T, F), (F, F)]))
        # Broken behind any two turns of which one is on: (F, T), (T, F) and (T, T) all come to it at the third.
        whole = book(musts=(("not", ("before", ("and", ("before", YES), ("once", A)))),))
        self.assertEqual(judged(whole, DARK), ("breaks", [(F, F), (T, F), (F, F)]))
        whole = wide(musts=(("not", ("and", ("before", B), ("or", A, B))),))
        four = tuple(((F, F), 0) for _ in range(4))
        self.assertEqual(judged(whole, (four,)), ("breaks", [(F, T, F, F), (F, T, F, F)]))

    def test_the_shorter_one_comes_ahead_of_the_first_in_order(self):
        # OFF leads to a break at the third turn, ON to one at the second.
        machine = (((OFF, 1), (OFF, 2)), ((OFF, 2), (OFF, 2)), ((ON, 2), (ON, 2)))
        self.assertEqual(judged(book(musts=(("not", X),)), machine), ("breaks", [(T, F), (F, T)]))

    def test_the_order_of_the_first_turns_counts_most(self):
        # Both ways break at the third turn: by (OFF, ON) and by (ON, OFF).
        machine = (
            ((OFF, 1), (OFF, 2)), ((OFF, 0), (OFF, 3)), ((OFF, 3), (OFF, 0)), ((ON, 3), (ON, 3)),
        )
        self.assertEqual(judged(book(musts=(("not", X),)), machine), ("breaks", [(F, F), (T, F), (F, T)]))

    def test_where_the_foe_keeps_its_promises(self):
        whole = book(promises=(A,), musts=(("not", X),))
        self.assertEqual(judged(whole, COPY), ("breaks", [(T, T)]))
        whole = book(promises=(("not", A),), musts=(("not", X),))
        self.assertEqual(judged(whole, COPY)[0], "mean")
        # The foe's lamp can be on at the third turn at the soonest.
        late = ("then", A, deep(3, "before", ("not", A)))
        self.assertEqual(
            judged(book(promises=(late,), musts=(("not", X),)), COPY), ("breaks", [(F, F), (F, F), (T, T)]))

    def test_one_of_several_musts(self):
        self.assertEqual(judged(book(musts=(YES, X)), DARK), ("breaks", [(F, F)]))
        self.assertEqual(judged(book(musts=(X, YES, YES)), DARK), ("breaks", [(F, F)]))
        self.assertEqual(judged(book(musts=(("or", A, X), ("then", A, X))), COPY), ("breaks", [(F, F)]))

    def test_kinds(self):
        told = judged(book(musts=(X,)), DARK)
        self.assertEqual([type(part) for part in told], [str, list])
        self.assertEqual([type(part) for part in told[1][0]], [bool, bool])

    def test_against_all_plays(self):
        draw = random.Random(15)
        lengths = {}
        for whole in by_words.some_books(250) + by_words.some_moving_books(250):
            if not is_book(whole):
                continue
            machine = some_machine(draw, whole, 3)
            longest = 7 if len(whole[0]) == 1 else 4
            play = by_rows.first_break(whole, machine, longest)
            told = judged(whole, machine)
            if play is not None:
                self.assertEqual(told, ("breaks", play), whole)
                lengths[len(play)] = lengths.get(len(play), 0) + 1
            elif told[0] == "breaks":
                self.assertGreater(len(told[1]), longest)
                self.assertEqual(first_breaks(whole, told[1]), (None, len(told[1]) - 1))
        self.assertTrue(lengths[1] and lengths[2] and lengths[3])


class Means(JudgingCase):
    def test_a_ring_of_one_turn(self):
        whole = book(wishes=((5, X),))
        self.assertEqual(judged(whole, DARK)[1:3], ((5, 1), []))
        self.assertEqual(len(self.has_mean(whole, DARK, (5, 1))[3]), 1)
        self.has_mean(whole, LIGHT, (0, 1))
        self.assertEqual(self.has_mean(whole, COPY, (5, 1))[2:], ([], [(F, F)]))
        self.has_mean(book(wishes=((5, ("not", X)), (3, A))), COPY, (5, 1))
        self.has_mean(book(wishes=((3, ("not", X)), (5, A))), COPY, (5, 1))

    def test_a_ring_of_several_turns(self):
        told = self.has_mean(book(wishes=((5, X),)), BLINK, (5, 2))
        self.assertEqual(len(told[3]), 2)
        told = self.has_mean(book(wishes=((4, X),)), BLINK, (2, 1))
        self.assertEqual(len(told[3]), 2)
        # The foe changes its lamp at each turn, so that what was set a turn ahead is always wrong.
        told = self.has_mean(book(wishes=((7, ("same", A, X)), (1, ("not", A)))), LATE, (15, 2))
        self.assertEqual(sorted(told[3]), [(F, T), (T, F)])

    def test_as_many_turns_as_stands(self):
        for stands in (3, 10, 64):
            ring = in_line(stands, OFF, ON)[:-1] + (((ON, 0), (ON, 0)),)
            told = self.has_mean(book(wishes=((1, X),)), ring, (stands - 1, stands))
            self.assertEqual(len(told[3]), stands)
            self.has_mean(book(wishes=((stands, ("not", X)),)), ring, (1, 1))

    def test_a_head(self):
        told = self.has_mean(book(wishes=((2, X), (1, ("not", X)))), in_line(5, OFF, ON), (1, 1))
        self.assertEqual([setting[1:] for setting in told[2]], [OFF] * 4)
        self.assertEqual([setting[1:] for setting in told[3]], [ON])
        told = self.has_mean(book(wishes=((99, ("not", X)),)), in_line(64, OFF, ON), (99, 1))
        self.assertEqual(len(told[2]), 63)

    def test_what_comes_once_does_not_count(self):
        self.has_mean(book(wishes=((99, ("before", YES)), (1, X))), DARK, (1, 1))
        self.has_mean(book(wishes=((99, X),)), in_line(8, OFF, ON), (0, 1))
        self.has_mean(book(wishes=((9, ("not", ("before", ("not", ("before", YES))))),)), DARK, (0, 1))

    def test_the_foe_chooses_where_to_go(self):
        # Behind ON 7 is lost in 2 turns for ever; behind OFF 3 at each.
        machine = (((OFF, 1), (OFF, 2)), ((OFF, 1), (OFF, 1)), ((ON, 3), (ON, 3)), ((OFF, 2), (OFF, 2)))
        self.has_mean(book(wishes=((7, ("not", X)),)), machine, (7, 2))
        self.has_mean(book(wishes=((3, X),)), machine, (3, 1))
        self.has_mean(book(wishes=((7, ("not", X)), (3, X))), machine, (5, 1))
        self.has_mean(book(wishes=((2, ("not", X)), (3, X))), machine, (3, 1))

    def test_where_the_foe_keeps_its_promises(self):
        whole = book(promises=(A,), wishes=((5, X),))
        self.has_mean(whole, COPY, (0, 1))
        whole = book(promises=(("same", A, ("not", ("before", A))),), wishes=((5, X), (2, ("not", A))))
        self.has_mean(whole, COPY, (7, 2))
        self.has_mean(whole, DARK, (6, 1))

    def test_bad_answers_that_break_nothing_yet(self):
        # The must is a must at all turns: the machine keeps it by what it never sets.
        whole = book(musts=(("not", ("before", X)),), wishes=((5, X),))
        self.has_mean(whole, DARK, (5, 1))
        self.assertEqual(judged(whole, LIGHT), ("breaks", [(F, T), (F, T)]))

    def test_several_wishes_and_lamps(self):
        whole = wide(wishes=((4, ("same", A, X)), (8, ("same", B, Y)), (3, ("or", X, Y))))
        same = tuple((setting, 0) for setting in by_words.settings("ab"))
        changed = tuple((setting[::-1], 0) for setting in by_words.settings("ab"))
        self.has_mean(whole, (same,), (3, 1))
        self.has_mean(whole, (changed,), (12, 1))
        whole = book(foe=("a", "b"), friend=("x",), wishes=((4, ("same", X, A)), (8, ("same", X, B))))
        self.has_mean(whole, (tuple(((setting[0],), 0) for setting in by_words.settings("ab")),), (8, 1))

    def test_no_other_ring_has_a_greater_mean(self):
        draw = random.Random(16)
        rings = {}
        heads = {}
        for whole in by_words.some_books(300) + by_words.some_moving_books(500):
            if not is_book(whole):
                continue
            for machine in [some_machine(draw, whole, 3)] + ([best_machine(whole)] if lost_in(whole)[0] is None else []):
                told = judged(whole, machine)
                if told[0] == "breaks":
                    continue
                self.fits(whole, machine, told)
                ways = by_rows.pairs_of(game(whole), whole[0], machine)
                if len(ways) > (9 if len(whole[0]) == 1 else 5):
                    continue
                found = by_rows.rings(ways, (0, 0), [])
                self.assertEqual(Fraction(told[1][0], told[1][1]), max(found, default=0), whole)
                self.assertEqual(told[3] == [], found == [])
                rings[len(told[3])] = rings.get(len(told[3]), 0) + 1
                heads[len(told[2])] = heads.get(len(told[2]), 0) + 1
        self.assertTrue(rings[0] and rings[1] and rings[2] and rings[3])
        self.assertTrue(heads[0] and heads[1] and heads[2])

    def test_many_places(self):
        # Each piece tells of another lamp, so there are all 16 nodes with each of the 64 stands.
        draw = random.Random(17)
        pieces = [("before", lamp) for lamp in (A, B, X, Y)]
        for _ in range(8):
            wishes = tuple((draw.randrange(1, 100), by_words.joined(draw, pieces + [A, B, X, Y], 4)) for _ in range(4))
            whole = wide(wishes=wishes + ((draw.randrange(1, 100), ("and", A, ("and", B, X))),))
            for steps in (1, 2, 64):
                machine = tuple(
                    tuple((draw.choice(by_words.settings("xy")), (stand + draw.randrange(steps) + 1) % 64)
                          for _ in range(4))
                    for stand in range(64))
                if is_book(whole):
                    self.fits(whole, machine, judged(whole, machine))


class WithoutAMove(JudgingCase):
    def test_none_at_node_0(self):
        self.assertEqual(judged(book(promises=(NO,), wishes=((5, NO),)), DARK), ("mean", (0, 1), [], []))
        # Not even a must that can't be kept is broken there.
        self.assertEqual(judged(book(promises=(NO,), musts=(NO,)), DARK), ("mean", (0, 1), [], []))

    def test_none_later(self):
        whole = book(promises=(("not", ("before", YES)),), wishes=((5, NO),))
        told = self.has_mean(whole, COPY, (0, 1))
        self.assertEqual((len(told[2]), told[3]), (1, []))
        whole = book(promises=(("not", deep(4, "before", YES)),), wishes=((5, NO),))
        told = self.has_mean(whole, LATE, (0, 1))
        self.assertEqual((len(told[2]), told[3]), (3, []))

    def test_the_machine_brings_it_about(self):
        whole = book(promises=(("not", ("before", X)),), wishes=((5, X),))
        told = self.has_mean(whole, LIGHT, (0, 1))
        self.assertEqual((len(told[2]), told[3]), (1, []))
        self.has_mean(whole, DARK, (5, 1))
        told = self.has_mean(whole, in_line(6, OFF, ON), (0, 1))
        self.assertEqual((len(told[2]), told[3]), (6, []))

    def test_a_ring_beside_it(self):
        # The foe comes to have no move by ON alone, and is not bound to set it.
        whole = book(promises=(("not", ("before", A)),), wishes=((5, A),))
        self.assertEqual(self.has_mean(whole, DARK, (5, 1))[3], [(F, F)])
        whole = book(promises=(("not", ("before", A)),), wishes=((5, ("not", A)),))
        self.assertEqual(self.has_mean(whole, DARK, (0, 1))[3], [(F, F)])

    def test_a_break_ahead_of_it(self):
        whole = book(promises=(("not", ("before", YES)),), musts=(X,))
        self.assertEqual(judged(whole, COPY), ("breaks", [(F, F)]))
        self.assertEqual(self.has_mean(whole, LIGHT, (0, 1))[3], [])


class Refusals(unittest.TestCase):
    def test_no_machine(self):
        for machine in no_machines():
            with self.assertRaises(NoMachine):
                judged(book(), machine)
        for whole, machine in ((wide(), COPY), (book(foe=("a", "b")), COPY), (book(friend=("x", "y")), COPY)):
            with self.assertRaises(NoMachine):
                judged(whole, machine)
        with self.assertRaises(NoMachine):
            judged(book(musts=(NO,)), DARK * 65)

    def test_no_book(self):
        for thing in no_books():
            with self.subTest(kind=type(thing).__name__):
                for machine in (COPY, (), None, Untouchable()):
                    with self.assertRaises(NoBook):
                        judged(thing, machine)


class Kinds(unittest.TestCase):
    def test_new_lists_each_time(self):
        cases = (
            (book(musts=(("not", X),)), BLINK),
            (book(wishes=((99, ("not", X)),)), in_line(5, OFF, ON)),
            (book(promises=(("not", ("before", YES)),)), COPY),
        )
        for whole, machine in cases:
            first = judged(whole, machine)
            second = judged(whole, machine)
            kept = copy.deepcopy(second)
            self.assertEqual(first, second)
            for one, other in zip(first, second):
                if isinstance(one, list):
                    self.assertIsNot(one, other)
                    one.append("changed")
                    one[0] = "changed"
            self.assertEqual(second, kept)
            self.assertEqual(judged(whole, machine), kept)

    def test_what_was_handed_in_is_as_before(self):
        whole = book(wishes=((5, ("same", X, ("before", A))),))
        machine = LATE * 3
        copies = copy.deepcopy((whole, machine))
        self.assertEqual(judged(whole, machine), judged(copies[0], copies[1]))
        self.assertEqual((whole, machine), copies)


if __name__ == "__main__":
    unittest.main()
