"""What the document promises over the whole program: what one point tells of what another one tells."""

import copy
import importlib
import inspect
import random
import unittest

from leastloss.books import is_book
from leastloss.changes import kept_together, spare
from leastloss.errors import Lost
from leastloss.games import game
from leastloss.judging import judged
from leastloss.machines import best_machine, lesser, run
from leastloss.means import foe_plan, friend_plan, mean
from leastloss.musts import breaking_moves, lost_in
from leastloss.plays import first_breaks, losses
from leastloss.texts import book_text, machine_text, read_book, read_machine
from leastloss.turns import least_in
from tests import by_words
from tests.some_machines import some_machine
from tests.things import A, B, X, Y, YES, book, deep, wide

INTERFACE = {
    "sayings": {"checked_saying": "names saying", "depth": "saying", "waiting": "r g", "past_pieces": "saying"},
    "books": {"checked": "book", "book_pieces": "book"},
    "plays": {"holds": "book saying play", "first_breaks": "book play", "losses": "book play"},
    "games": {"memory_behind": "book play", "game": "book"},
    "musts": {"lost_in": "book", "breaking_moves": "book"},
    "means": {"mean": "book", "friend_plan": "book", "foe_plan": "book"},
    "papers": {"friend_shows": "book mean plan paper", "foe_shows": "book mean plan paper"},
    "machines": {
        "checked_machine": "book machine", "run": "book machine sets", "lesser": "book machine", "best_machine": "book",
    },
    "judging": {"judged": "book machine"},
    "turns": {"least_in": "book turns"},
    "changes": {"spare": "book", "kept_together": "book", "beside": "one other"},
    "texts": {
        "saying_text": "saying", "read_saying": "names text", "book_text": "book", "read_book": "text",
        "machine_text": "book machine", "read_machine": "book text",
    },
}


def drawn_books(number):
    return [whole for whole in by_words.some_books(number) + by_words.some_moving_books(number) if is_book(whole)]


def kept_books(number):
    """Books whose musts the friend can keep."""
    return [whole for whole in drawn_books(number) if lost_in(whole)[0] is None]


def no_less(one, other):
    return one[0] * other[1] >= other[0] * one[1]


class Interface(unittest.TestCase):
    def test_names_and_arguments(self):
        for module, functions in INTERFACE.items():
            found = importlib.import_module("leastloss." + module)
            for name, arguments in functions.items():
                parameters = inspect.signature(getattr(found, name)).parameters
                self.assertEqual(list(parameters), arguments.split(), name)
                self.assertTrue(all(one.default is one.empty for one in parameters.values()), name)


class Turns(unittest.TestCase):
    def test_the_mean_lies_between(self):
        ends = 0
        for whole in kept_books(150):
            up, down = mean(whole)
            above = friend_plan(whole)[1][0]
            below = foe_plan(whole)[1][0]
            for turns in (0, 1, 2, 3, 5, 8, 13, 30, 59, 60):
                held = down * least_in(whole, turns)
                self.assertLessEqual(held, up * turns + above, whole)
                self.assertGreaterEqual(held, up * turns - below, whole)
                ends += turns > 0 and held in (up * turns + above, up * turns - below)
        self.assertGreater(ends, 0)


class Judged(unittest.TestCase):
    def test_the_best_machine_has_the_mean(self):
        unlike = {}
        for whole in kept_books(300):
            machine = best_machine(whole)
            told = judged(whole, machine)
            self.assertEqual(told[:2], ("mean", mean(whole)), whole)
            unlike[mean(whole)] = True
        self.assertGreater(len(unlike), 50)

    def test_no_machine_has_a_lesser_one(self):
        draw = random.Random(21)
        seen = {"breaks": 0, "same": 0, "greater": 0}
        for whole in kept_books(250):
            for most in (1, 2, 3, 6):
                told = judged(whole, some_machine(draw, whole, most))
                if told[0] == "breaks":
                    seen["breaks"] += 1
                else:
                    self.assertTrue(no_less(told[1], mean(whole)), whole)
                    seen["same" if told[1] == mean(whole) else "greater"] += 1
        self.assertTrue(all(number > 20 for number in seen.values()), seen)

    def test_changed_best_machines(self):
        draw = random.Random(22)
        seen = {"breaks": 0, "same": 0, "greater": 0}
        for whole in kept_books(250):
            machine = [list(stand) for stand in best_machine(whole)]
            stand = draw.choice(machine)
            place = draw.randrange(len(stand))
            stand[place] = (draw.choice(by_words.settings(whole[1])), draw.randrange(len(machine)))
            told = judged(whole, tuple(tuple(stand) for stand in machine))
            if told[0] == "breaks":
                seen["breaks"] += 1
            else:
                self.assertTrue(no_less(told[1], mean(whole)), whole)
                seen["same" if told[1] == mean(whole) else "greater"] += 1
        self.assertTrue(all(number > 5 for number in seen.values()), seen)

    def test_where_node_0_is_lost_each_machine_breaks_a_must(self):
        draw = random.Random(23)
        turns = {}
        later = [
            book(musts=(("not", deep(back, "before", saying)),)) for back in (2, 3, 4, 5)
            for saying in (A, YES, ("not", A), ("same", A, ("before", A)), ("or", A, X))
        ]
        for whole in drawn_books(300) + [whole for whole in later if is_book(whole)]:
            lost = lost_in(whole)[0]
            if lost is None:
                continue
            for most in (1, 2, 5):
                machine = some_machine(draw, whole, most)
                told = judged(whole, machine)
                self.assertEqual(told[0], "breaks")
                # The foe's plan breaks it so soon, whatever the friend does.
                self.assertLessEqual(len(told[1]), lost)
                self.assertEqual(first_breaks(whole, told[1]), (None, len(told[1]) - 1))
                self.assertEqual(run(whole, machine, [setting[:len(whole[0])] for setting in told[1]]), told[1])
            turns[lost] = turns.get(lost, 0) + 1
        self.assertTrue(turns[1] and turns[2] and turns[3] and turns[4] and turns[5])

    def test_the_least_machine_is_judged_alike(self):
        draw = random.Random(24)
        for whole in drawn_books(150):
            machine = some_machine(draw, whole, 8)
            told = judged(whole, machine)
            least = judged(whole, lesser(whole, machine))
            self.assertEqual(told[:2], least[:2])

    def test_written_and_read_back(self):
        for whole in kept_books(100):
            machine = best_machine(whole)
            self.assertEqual(read_machine(whole, machine_text(whole, machine)), machine)
            self.assertEqual(mean(read_book(book_text(whole))), mean(whole))


def named(thing, names):
    """A book or saying with other names."""
    if isinstance(thing, tuple) and thing[:1] == ("lamp",):
        return ("lamp", names[thing[1]])
    if isinstance(thing, tuple):
        return tuple(named(part, names) for part in thing)
    return thing


def renamed(whole, names):
    foe = tuple(names[name] for name in whole[0])
    return (foe, tuple(names[name] for name in whole[1])) + named(whole[2:], names)


def said_otherwise(draw, saying):
    """A saying of the same meaning, said otherwise at some of its places."""
    if saying[0] in ("lamp", "yes", "no"):
        others = [saying, ("not", ("not", saying)), ("and", saying, YES), ("or", saying, saying), ("same", saying, YES)]
        return draw.choice([saying] * 4 + others)
    parts = [said_otherwise(draw, part) for part in saying[1:]]
    return draw.choice(otherwise(saying[0], parts))


def otherwise(word, parts):
    """Sayings with the meaning that a word gives to these parts."""
    same = (word,) + tuple(parts)
    s, t = parts[0], parts[-1]
    if word == "and":
        return [same, (word, t, s), ("not", ("or", ("not", s), ("not", t)))]
    if word == "or":
        return [same, (word, t, s), ("then", ("not", s), t)]
    if word == "then":
        return [same, ("or", t, ("not", s)), ("not", ("and", s, ("not", t)))]
    if word == "same":
        return [same, (word, t, s), ("and", ("then", s, t), ("then", t, s)), ("not", (word, ("not", s), t))]
    if word == "once":
        return [same, ("not", ("sofar", ("not", s))), ("since", YES, s)]
    if word == "sofar":
        return [same, ("not", ("once", ("not", s))), ("not", ("since", YES, ("not", s)))]
    if word == "since":
        return [same, ("or", t, ("and", s, ("before", same)))]
    if word == "not":
        return [same, ("same", s, ("no",)), ("then", s, ("no",))]
    return [same]


class SameMean(unittest.TestCase):
    def alike(self, one, other):
        """Both books are lost, or have one mean and the same losses in so many turns."""
        self.assertTrue(is_book(other))
        self.assertEqual(lost_in(one)[0], lost_in(other)[0])
        if lost_in(one)[0] is not None:
            self.assertRaises(Lost, mean, other)
            return False
        self.assertEqual(mean(one), mean(other), (one, other))
        for turns in (1, 2, 7, 60):
            self.assertEqual(least_in(one, turns), least_in(other, turns))
        return True

    def test_lamps_named_otherwise(self):
        for whole in drawn_books(150):
            for names in (
                {"a": "zz", "b": "lamp", "x": "abcdefgh", "y": "true"}, {"a": "x", "b": "y", "x": "a", "y": "b"},
                {"a": "b", "b": "a", "x": "y", "y": "x"},
            ):
                self.alike(whole, renamed(whole, names))

    def test_lamps_in_another_order(self):
        for whole in drawn_books(150):
            self.alike(whole, (whole[0][::-1], whole[1][::-1]) + whole[2:])

    def test_sayings_in_another_order(self):
        draw = random.Random(25)
        changed = 0
        for whole in drawn_books(250):
            other = whole[:2] + tuple(tuple(draw.sample(rows, len(rows))) for rows in whole[2:])
            self.alike(whole, other)
            changed += other != whole
        self.assertGreater(changed, 100)

    def test_sayings_twice(self):
        for whole in drawn_books(150):
            other = whole[:2] + ((whole[2] * 2)[:3], (whole[3] * 2)[:3], whole[4])
            self.alike(whole, other)

    def test_said_otherwise(self):
        draw = random.Random(26)
        changed = 0
        for whole in drawn_books(400):
            other = whole[:2] + (
                tuple(said_otherwise(draw, saying) for saying in whole[2]),
                tuple(said_otherwise(draw, saying) for saying in whole[3]),
                tuple((price, said_otherwise(draw, saying)) for price, saying in whole[4]),
            )
            if is_book(other):
                changed += self.alike(whole, other) and other != whole
        self.assertGreater(changed, 150)

    def test_a_wish_in_two(self):
        split = 0
        for whole in drawn_books(150):
            price, saying = whole[4][0]
            if price > 1 and len(whole[4]) < 5:
                self.alike(whole, whole[:4] + (((price - 1, saying),) + whole[4][1:] + ((1, saying),),))
                split += 1
        self.assertGreater(split, 50)

    def test_prices_so_many_times(self):
        for whole in kept_books(60):
            cheap = whole[:4] + (tuple((1 + price % 9, saying) for price, saying in whole[4]),)
            up, down = mean(cheap)
            for times in (2, 3, 7, 11):
                dear = whole[:4] + (tuple((price * times, saying) for price, saying in cheap[4]),)
                self.assertEqual(mean(dear)[0] * down, up * times * mean(dear)[1])
                for turns in (1, 2, 7, 60):
                    self.assertEqual(least_in(dear, turns), times * least_in(cheap, turns))
                self.assertEqual((spare(dear), kept_together(dear)), (spare(cheap), kept_together(cheap)))

    def test_kept_together(self):
        for whole in kept_books(80):
            everything = tuple(range(len(whole[4])))
            self.assertEqual(kept_together(whole) == [everything], mean(whole) == (0, 1))


class Lists(unittest.TestCase):
    def test_new_ones_each_time(self):
        whole = wide(wishes=((3, ("same", X, ("before", A))), (4, ("same", Y, ("before", B))), (5, ("not", X))))
        play = [(True, False, True, False)] * 3
        machine = best_machine(whole)
        asked = (
            lambda: game(whole), lambda: lost_in(whole), lambda: breaking_moves(whole), lambda: losses(whole, play),
            lambda: friend_plan(whole)[0], lambda: friend_plan(whole)[1], lambda: foe_plan(whole)[0],
            lambda: foe_plan(whole)[1], lambda: judged(whole, machine)[2], lambda: judged(whole, machine)[3],
            lambda: spare(whole), lambda: kept_together(whole), lambda: run(whole, machine, [(True, False)] * 3),
        )
        for ask in asked:
            first = ask()
            kept = copy.deepcopy(first)
            self.assertIs(type(first), list)
            self.assertIsNot(first, ask())
            first.append("changed")
            first[0] = "changed"
            self.assertEqual(ask(), kept)
        self.assertEqual(play, [(True, False, True, False)] * 3)

    def test_equal_things_give_equal_answers(self):
        for whole in kept_books(40):
            other = copy.deepcopy(whole)
            for ask in (mean, friend_plan, foe_plan, best_machine, spare, kept_together, book_text, game):
                self.assertEqual(ask(whole), ask(other))
            self.assertEqual(judged(whole, best_machine(other)), judged(other, best_machine(whole)))
            self.assertEqual(whole, other)

    def test_a_plain_book_through_the_whole_program(self):
        whole = book(wishes=((3, X), (5, ("not", ("and", X, ("before", X))))))
        self.assertEqual(mean(whole), (3, 2))
        machine = best_machine(whole)
        self.assertEqual(judged(whole, machine)[:2], ("mean", (3, 2)))
        self.assertEqual([least_in(whole, turns) for turns in range(6)], [0, 0, 3, 3, 6, 6])
        self.assertEqual((spare(whole), kept_together(whole)), ([], [(0,), (1,)]))
        self.assertEqual(read_book(book_text(whole)), whole)


if __name__ == "__main__":
    unittest.main()
