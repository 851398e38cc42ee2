import copy
import itertools
import random
import unittest

from leastloss.books import checked, is_book
from leastloss.changes import beside, kept_together, spare
from leastloss.errors import Lost, NoBook, TooBig
from leastloss.games import game
from leastloss.means import mean
from leastloss.musts import lost_in
from leastloss.turns import least_in
from tests import by_words
from tests.things import A, B, NO, X, Y, YES, Untouchable, book, deep, no_books, wide

LOST = (book(musts=(NO,)), book(musts=(A,)), book(musts=(("not", ("before", YES)),)), wide(musts=(("same", A, B),)))
NO_X = ("not", X)
LATER = ("not", ("before", X))


def wishing(*wishes, promises=(), musts=()):
    return book(promises=promises, musts=musts, wishes=wishes)


def priced(*sayings):
    """A book whose wishes are these sayings, at unlike prices."""
    return wishing(*[(2 + place, saying) for place, saying in enumerate(sayings)])


def other_book(foe=("b",), friend=("y",), promises=(), musts=(), wishes=((1, YES),)):
    return (foe, friend, promises, musts, wishes)


def with_wishes(whole, places):
    return whole[:4] + (tuple(whole[4][place] for place in places),)


class Spare(unittest.TestCase):
    def test_none(self):
        self.assertEqual(spare(wishing((3, NO))), [])
        self.assertEqual(spare(wishing((3, A), (5, NO))), [])
        self.assertEqual(spare(priced(NO, NO, NO, NO, NO)), [])

    def test_one(self):
        self.assertEqual(spare(wishing((3, NO), (5, YES))), [1])
        self.assertEqual(spare(wishing((3, X), (5, NO))), [0])
        self.assertEqual(spare(priced(NO, A, ("same", A, X), NO)), [2])

    def test_several(self):
        self.assertEqual(spare(wishing((3, X), (5, NO), (7, X))), [0, 2])
        self.assertEqual(spare(priced(YES, X, ("or", A, X), ("before", X), NO)), [0, 1, 2, 3])
        self.assertEqual(spare(priced(YES, YES, YES, YES, YES)), [0, 1, 2, 3, 4])

    def test_each_by_itself(self):
        # Without either of them nothing need be lost; of both the cheaper is lost, whichever is dearer.
        self.assertEqual(spare(wishing((3, X), (5, NO_X))), [])
        # The dearer side is kept, here also without either of its two wishes.
        self.assertEqual(spare(wishing((3, X), (3, X), (2, NO_X))), [0, 1])
        self.assertEqual(spare(wishing((3, X), (3, X), (4, NO_X))), [])
        # What the foe takes is the greater of two: the lesser is spare, and the greater is not.
        self.assertEqual(spare(wishing((3, A), (5, ("not", A)))), [0])
        self.assertEqual(spare(wishing((5, A), (5, ("not", A)))), [0, 1])

    def test_an_only_wish(self):
        for saying in (YES, X, ("same", A, X), ("before", X), ("once", X)):
            self.assertEqual(spare(wishing((9, saying))), [0])
        for saying in (NO, A, ("sofar", A), ("same", A, ("before", X))):
            self.assertEqual(spare(wishing((9, saying))), [])
        self.assertEqual(spare(wishing((9, NO), promises=(NO,))), [0])

    def test_what_comes_once_is_spare(self):
        self.assertEqual(spare(wishing((99, ("before", YES)), (1, NO))), [0])

    def test_musts_and_promises_stay(self):
        self.assertEqual(spare(wishing((3, X), (5, NO_X), musts=(X,))), [0])
        self.assertEqual(spare(wishing((3, A), (5, ("not", A)), promises=(A,))), [0])

    def test_by_the_means(self):
        found = {}
        for whole in by_words.some_books(200) + by_words.some_moving_books(200):
            if not is_book(whole) or lost_in(whole)[0] is not None:
                continue
            told = []
            for place in range(len(whole[4])):
                left = whole[4][:place] + whole[4][place + 1:]
                if mean(whole) == (mean(whole[:4] + (left,)) if left else (0, 1)):
                    told.append(place)
            self.assertEqual(spare(whole), told)
            found[len(told)] = found.get(len(told), 0) + 1
        self.assertTrue(found[0] and found[1] and found[2] and found[3])


class KeptTogether(unittest.TestCase):
    def test_all(self):
        self.assertEqual(kept_together(wishing((3, X))), [(0,)])
        self.assertEqual(kept_together(priced(X, ("or", A, X), YES)), [(0, 1, 2)])
        self.assertEqual(kept_together(priced(YES, YES, YES, YES, YES)), [(0, 1, 2, 3, 4)])
        self.assertEqual(kept_together(wishing((9, NO), promises=(NO,))), [(0,)])

    def test_none(self):
        self.assertEqual(kept_together(wishing((3, NO))), [()])
        self.assertEqual(kept_together(priced(A, NO, ("not", A))), [()])
        self.assertEqual(kept_together(priced(NO, NO, NO, NO, NO)), [()])

    def test_some(self):
        self.assertEqual(kept_together(priced(NO, X)), [(1,)])
        self.assertEqual(kept_together(priced(X, NO, YES, A)), [(0, 2)])

    def test_several_greatest_ones(self):
        self.assertEqual(kept_together(priced(X, NO_X)), [(0,), (1,)])
        self.assertEqual(kept_together(priced(X, NO_X, X, NO_X)), [(0, 2), (1, 3)])
        self.assertEqual(kept_together(priced(NO_X, X, X, X, NO_X)), [(0, 4), (1, 2, 3)])
        # The longer one is not ahead of the first in order.
        self.assertEqual(kept_together(priced(X, NO_X, NO_X, NO_X)), [(0,), (1, 2, 3)])

    def test_that_overlap(self):
        self.assertEqual(kept_together(priced(YES, X, NO_X)), [(0, 1), (0, 2)])
        self.assertEqual(kept_together(priced(X, YES, NO_X)), [(0, 1), (1, 2)])
        # Each two of them can be so, but not all three.
        whole = wide(wishes=((1, X), (2, Y), (3, ("not", ("and", X, Y)))))
        self.assertEqual(kept_together(whole), [(0, 1), (0, 2), (1, 2)])
        whole = wide(wishes=((1, X), (2, Y), (3, ("not", ("and", X, Y))), (4, YES), (5, NO)))
        self.assertEqual(kept_together(whole), [(0, 1, 3), (0, 2, 3), (1, 2, 3)])

    def test_over_time(self):
        # x on at every turn and x not on behind a turn with x can't both be, but for the first turn.
        self.assertEqual(kept_together(priced(X, LATER)), [(0,), (1,)])
        self.assertEqual(kept_together(priced(("or", X, ("before", X)), LATER)), [(0,), (1,)])
        self.assertEqual(kept_together(priced(("once", X), ("sofar", NO_X), NO_X)), [(0, 2), (1, 2)])

    def test_musts_and_promises_stay(self):
        self.assertEqual(kept_together(wishing((3, X), (5, NO_X), musts=(X,))), [(0,)])
        self.assertEqual(kept_together(wishing((3, A), (5, ("not", A)), promises=(A,))), [(0,)])
        self.assertEqual(kept_together(wishing((3, A), (5, ("not", A)), promises=(NO,))), [(0, 1)])

    def test_kinds(self):
        for told in (kept_together(priced(X, NO_X)), kept_together(wishing((3, NO)))):
            self.assertIs(type(told), list)
            self.assertEqual({type(choice) for choice in told}, {tuple})

    def test_by_the_means(self):
        found = {}
        draw = random.Random(17)
        seen = [A, X, Y, ("before", A), ("before", X), ("once", Y)]
        drawn = [
            book(friend=("x", "y"), wishes=tuple((1, by_words.joined(draw, seen, 1)) for _ in range(5)))
            for _ in range(60)
        ]
        for whole in by_words.some_books(80) + by_words.some_moving_books(80) + drawn:
            if not is_book(whole) or lost_in(whole)[0] is not None:
                continue
            places = range(len(whole[4]))
            choices = [choice for size in range(len(places) + 1) for choice in itertools.combinations(places, size)]
            kept = [choice for choice in choices if not choice or mean(with_wishes(whole, choice)) == (0, 1)]
            greatest = [one for one in kept if not any(set(one) < set(other) for other in kept)]
            self.assertEqual(kept_together(whole), sorted(greatest))
            found[len(greatest)] = found.get(len(greatest), 0) + 1
        self.assertTrue(found[1] and found[2] and found[3])


class LostAndNoBook(unittest.TestCase):
    def test_lost(self):
        for whole in LOST:
            for ask in (spare, kept_together):
                with self.assertRaises(Lost):
                    ask(whole)
                with self.assertRaises(Lost):
                    ask(whole[:4] + (((1, NO), (2, A), (3, X)),))

    def test_no_book(self):
        for thing in no_books() + [book(musts=(NO,), wishes=()), book(musts=(NO,) * 4)]:
            with self.subTest(kind=type(thing).__name__):
                for ask in (spare, kept_together):
                    with self.assertRaises(NoBook):
                        ask(thing)


class Beside(unittest.TestCase):
    def test_the_very_book(self):
        one = book(("a",), ("x",), (A, ("before", X)), (X, YES), ((3, ("once", A)), (4, NO)))
        other = book(("b",), ("y",), (("not", B),), (("or", B, Y),), ((5, ("since", B, Y)), (6, Y), (7, NO)))
        self.assertEqual(beside(one, other), (
            ("a", "b"), ("x", "y"),
            (A, ("before", X), ("not", B)),
            (X, YES, ("or", B, Y)),
            ((3, ("once", A)), (4, NO), (5, ("since", B, Y)), (6, Y), (7, NO)),
        ))
        self.assertEqual(beside(other, one), (
            ("b", "a"), ("y", "x"),
            (("not", B), A, ("before", X)),
            (("or", B, Y), X, YES),
            ((5, ("since", B, Y)), (6, Y), (7, NO), (3, ("once", A)), (4, NO)),
        ))
        self.assertEqual(checked(beside(one, other)), beside(one, other))

    def test_plain_books(self):
        self.assertEqual(beside(book(), other_book()), wide(wishes=((1, YES), (1, YES))))

    def test_a_name_in_both(self):
        for foe, friend in ((("a",), ("y",)), (("b",), ("x",)), (("x",), ("y",)), (("b",), ("a",)), (("x",), ("a",))):
            with self.assertRaises(NoBook):
                beside(book(), other_book(foe, friend))
            with self.assertRaises(NoBook):
                beside(other_book(foe, friend), book())
        with self.assertRaises(NoBook):
            beside(book(), book())

    def test_a_name_in_both_also_where_it_would_be_too_big(self):
        with self.assertRaises(NoBook):
            beside(wide(), wide())
        with self.assertRaises(NoBook):
            beside(wide(), other_book(("c",), ("x",)))
        with self.assertRaises(NoBook):
            beside(other_book(("c", "a"), ("d",)), book())
        with self.assertRaises(NoBook):
            beside(book(musts=(YES,) * 3), other_book(foe=("x",), musts=(YES,)))

    def test_too_many_lamps(self):
        for foe, friend in ((("b", "c"), ("y",)), (("b",), ("y", "z")), (("b", "c"), ("y", "z"))):
            with self.assertRaises(TooBig):
                beside(book(), other_book(foe, friend))
            with self.assertRaises(TooBig):
                beside(other_book(foe, friend), book())

    def test_how_many_promises_musts_and_wishes(self):
        rows = (("promises", 3, YES), ("musts", 3, YES), ("wishes", 5, (1, YES)))
        for key, most, part in rows:
            for mine, yours in itertools.product(range(1 if key == "wishes" else 0, most + 1), repeat=2):
                one = book(**{key: (part,) * mine})
                other = other_book(**{key: (part,) * yours})
                if mine + yours <= most:
                    self.assertTrue(is_book(beside(one, other)))
                else:
                    with self.assertRaises(TooBig):
                        beside(one, other)

    def test_how_many_past_pieces(self):
        def pieces(number, lamp):
            return ((1, deep(number + 1, "before", lamp)),)

        for mine, yours in itertools.product(range(5), repeat=2):
            one = book(wishes=pieces(mine, X))
            other = other_book(wishes=pieces(yours, Y))
            if mine + yours <= 4:
                self.assertEqual(beside(one, other)[4], pieces(mine, X) + pieces(yours, Y))
            else:
                with self.assertRaises(TooBig):
                    beside(one, other)

    def test_a_past_piece_of_both_counts_once(self):
        one = book(wishes=((1, deep(5, "before", YES)),))
        other = other_book(wishes=((2, deep(5, "before", YES)),))
        self.assertTrue(is_book(beside(one, other)))
        with self.assertRaises(TooBig):
            beside(one, other_book(wishes=((2, ("once", Y)),)))

    def test_things_that_are_no_book(self):
        for thing in no_books():
            with self.subTest(kind=type(thing).__name__):
                for good in (book(), wide(), book(musts=(YES,) * 3)):
                    with self.assertRaises(NoBook):
                        beside(thing, good)
                    with self.assertRaises(NoBook):
                        beside(good, thing)
                with self.assertRaises(NoBook):
                    beside(thing, Untouchable())

    def test_lost_books_too(self):
        one = book(musts=(NO,))
        self.assertEqual(beside(one, other_book())[3], (NO,))


def named(whole):
    """A book with lamps b and y in the place of a and x."""
    names = {"a": "b", "x": "y"}

    def renamed(thing):
        if isinstance(thing, tuple):
            if thing[:1] == ("lamp",):
                return ("lamp", names[thing[1]])
            return tuple(renamed(part) for part in thing)
        return thing

    return (tuple(names[name] for name in whole[0]), tuple(names[name] for name in whole[1])) + renamed(whole[2:])


class Sums(unittest.TestCase):
    def pairs(self, number):
        """Pairs of books that are a book side by side, in which the foe always has a move."""
        draw = random.Random(number)
        small = [
            whole for whole in by_words.some_books(400) + by_words.some_moving_books(500)
            if len(whole[0]) == len(whole[1]) == 1 and is_book(whole) and all(moves for memory, moves in game(whole))
        ]
        # Most means are whole numbers: without a choice, hardly any two would have to be put on one divisor.
        uneven = [whole for whole in small if lost_in(whole)[0] is None and mean(whole)[1] > 1]
        pairs = []
        while len(pairs) < number:
            one = draw.choice(draw.choice((small, uneven)))
            other = named(draw.choice(draw.choice((small, uneven))))
            if is_book(tuple(mine + yours for mine, yours in zip(one, other))):
                pairs.append((one, other))
        return pairs

    def test_by_hand(self):
        one = wishing((3, X), (5, ("not", ("and", X, ("before", X)))))
        other = named(wishing((7, NO)))
        self.assertEqual((mean(one), mean(other), mean(beside(one, other))), ((3, 2), (7, 1), (17, 2)))
        self.assertEqual([least_in(beside(one, other), turns) for turns in range(5)], [0, 7, 17, 24, 34])

    def test_means_and_what_is_held_in_so_many_turns(self):
        fractions = 0
        for one, other in self.pairs(120):
            both = beside(one, other)
            if lost_in(one)[0] is not None or lost_in(other)[0] is not None:
                self.assertIsNotNone(lost_in(both)[0])
                continue
            (up, down), (rise, run) = mean(one), mean(other)
            told = mean(both)
            self.assertEqual(told[0] * down * run, told[1] * (up * run + rise * down), both)
            fractions += told[1] > 1
            for turns in (0, 1, 2, 3, 10, 60):
                self.assertEqual(least_in(both, turns), least_in(one, turns) + least_in(other, turns))
        self.assertGreater(fractions, 5)

    def test_one_of_both_lost(self):
        for lost in LOST[:3]:
            for good in (wishing((3, X)), wishing((3, ("same", A, ("before", X))))):
                for both in (beside(lost, named(good)), beside(good, named(lost))):
                    self.assertIsNotNone(lost_in(both)[0])
                    with self.assertRaises(Lost):
                        mean(both)
                    with self.assertRaises(Lost):
                        least_in(both, 3)


class Kinds(unittest.TestCase):
    def test_new_lists_each_time(self):
        whole = priced(X, NO_X, YES)
        for ask, told in ((spare, [2]), (kept_together, [(0, 2), (1, 2)])):
            first = ask(whole)
            self.assertIs(type(first), list)
            first.append("changed")
            first[0] = None
            self.assertEqual(ask(whole), told)

    def test_what_was_handed_in_is_as_before(self):
        whole = priced(X, NO_X, ("same", X, ("before", A)))
        other = named(priced(X, A))
        kept = copy.deepcopy((whole, other))
        self.assertEqual(spare(whole), spare(kept[0]))
        self.assertEqual(kept_together(whole), kept_together(kept[0]))
        self.assertEqual(beside(whole, other), beside(kept[0], kept[1]))
        self.assertEqual((whole, other), kept)


if __name__ == "__main__":
    unittest.main()
