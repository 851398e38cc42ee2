import copy
import unittest

from leastloss.books import book_pieces, checked
from leastloss.errors import NoBook
from tests.things import A, B, NO_NAMES, X, Y, YES, Untouchable, book, deep, odd_things, wide


class BookCase(unittest.TestCase):
    def told_back(self, thing):
        self.assertEqual(checked(thing), thing)
        self.assertIs(type(book_pieces(thing)), list)

    def refused(self, thing):
        with self.assertRaises(NoBook):
            checked(thing)
        with self.assertRaises(NoBook):
            book_pieces(thing)


class Whole(BookCase):
    def test_books_are_told_back(self):
        self.told_back(book())
        self.told_back(wide())
        self.told_back((
            ("ask", "stop"), ("give", "rest"),
            (("then", ("before", ("lamp", "give")), ("not", ("lamp", "ask"))),),
            (("not", ("and", ("lamp", "give"), ("lamp", "stop"))),),
            ((7, ("then", ("lamp", "ask"), ("lamp", "give"))), (1, ("lamp", "rest"))),
        ))

    def test_what_is_no_tuple_is_refused(self):
        for thing in odd_things():
            with self.subTest(kind=type(thing).__name__):
                self.refused(thing)
        self.refused(list(book()))
        self.refused({part: part for part in book()})

    def test_parts_more_and_fewer(self):
        for length in range(5):
            with self.subTest(length=length):
                self.refused(book()[:length])
        for more in ((), ("b",), None, ((1, YES),)):
            with self.subTest(more=more):
                self.refused(book() + (more,))
                self.refused((more,) + book())

    def test_odd_things_at_each_place(self):
        for place in range(5):
            for thing in odd_things():
                with self.subTest(place=place, kind=type(thing).__name__):
                    parts = list(book())
                    parts[place] = thing
                    self.refused(tuple(parts))

    def test_lists_in_the_place_of_tuples(self):
        whole = book(promises=(A,), musts=(X,), wishes=((1, A),))
        self.told_back(whole)
        for place in range(5):
            with self.subTest(place=place):
                parts = list(whole)
                parts[place] = list(parts[place])
                self.refused(tuple(parts))
        self.refused(book(promises=(["lamp", "a"],)))
        self.refused(book(musts=(["lamp", "x"],)))
        self.refused(book(wishes=([1, A],)))
        self.refused(book(wishes=((1, ["lamp", "a"]),)))
        self.refused(book(promises=(("not", ["lamp", "a"]),)))
        self.refused(book(musts=(("and", X, ["lamp", "x"]),)))
        self.refused(book(wishes=((1, ("and", ["yes"], A)),)))

    def test_parts_in_another_order(self):
        self.refused((("a",), ("x",), (), ((1, YES),), ()))
        self.refused((("a",), ("x",), ((1, YES),), (), ()))
        self.refused(((), ("a",), ("x",), (), ((1, YES),)))


class Lamps(BookCase):
    def test_one_and_two_on_either_side(self):
        for foe in (("a",), ("a", "b")):
            for friend in (("x",), ("x", "y")):
                with self.subTest(foe=foe, friend=friend):
                    self.told_back(book(foe=foe, friend=friend))

    def test_none_and_three_on_either_side(self):
        for bad in ((), ("p", "q", "r"), ("p", "q", "r", "s")):
            with self.subTest(bad=bad):
                self.refused(book(foe=bad))
                self.refused(book(friend=bad))
                self.refused(book(foe=bad, friend=bad))

    def test_alike_on_one_side(self):
        self.refused(book(foe=("a", "a")))
        self.refused(book(friend=("x", "x")))

    def test_alike_on_both_sides(self):
        self.refused(book(foe=("a",), friend=("a",)))
        self.refused(book(foe=("a", "b"), friend=("a", "x")))
        self.refused(book(foe=("a", "b"), friend=("x", "a")))
        self.refused(book(foe=("a", "b"), friend=("b", "x")))
        self.refused(book(foe=("a", "b"), friend=("x", "b")))
        self.refused(book(foe=("a",), friend=("x", "a")))
        self.refused(book(foe=("a", "b"), friend=("b",)))

    def test_what_is_no_name_at_each_place(self):
        bad_names = list(NO_NAMES) + ["", "abcdefghi", "A", "a1", "a b", "\u00e4", None, True, 1, ("c",), ["c"], b"c",
                                      {}, Untouchable()]
        for bad in bad_names:
            with self.subTest(bad=repr(bad)):
                self.refused(book(foe=(bad,)))
                self.refused(book(foe=(bad, "b")))
                self.refused(book(foe=("a", bad)))
                self.refused(book(friend=(bad,)))
                self.refused(book(friend=(bad, "y")))
                self.refused(book(friend=("x", bad)))

    def test_names_of_eight_letters_and_the_word_lamp(self):
        self.told_back(book(foe=("abcdefgh", "lamp"), friend=("z", "zzzzzzzz")))

    def test_a_text_is_no_tuple_of_names(self):
        self.refused(book(foe="a"))
        self.refused(book(foe="ab"))
        self.refused(book(friend="xy"))


class PromisesAndMusts(BookCase):
    def test_none_to_three_and_four(self):
        for number in range(4):
            with self.subTest(number=number):
                self.told_back(book(promises=(A,) * number))
                self.told_back(book(musts=(X,) * number))
                self.told_back(book(promises=(A,) * number, musts=(X,) * number))
        for number in (4, 5, 1000000):
            with self.subTest(number=number):
                self.refused(book(promises=(YES,) * number))
                self.refused(book(musts=(YES,) * number))

    def test_what_is_no_saying_at_each_place(self):
        bad_sayings = odd_things() + [
            (), ("maybe",), ("yes", "yes"), ("not",), ("not", A, A), ("lamp", "a", "a"), ("lamp",), ("and", A),
            ("since", A, A, A), deep(9), deep(100000),
        ]
        for bad in bad_sayings:
            with self.subTest(kind=type(bad).__name__):
                for row in ((bad,), (bad, YES), (YES, bad), (YES, YES, bad)):
                    self.refused(book(promises=row))
                    self.refused(book(musts=row))
                self.refused(book(wishes=((1, bad),)))
                self.refused(book(wishes=((1, YES), (1, bad))))
                self.refused(book(wishes=((1, YES),) * 4 + ((1, bad),)))

    def test_a_saying_alone_is_no_tuple_of_sayings(self):
        self.refused(book(promises=YES))
        self.refused(book(musts=A))
        self.refused(book(musts=("not", X)))

    def test_over_other_names(self):
        for name in ("b", "y", "c", "aa", "yes"):
            with self.subTest(name=name):
                other = ("lamp", name)
                self.refused(book(promises=(other,)))
                self.refused(book(promises=(A, other)))
                self.refused(book(promises=(("before", other),)))
                self.refused(book(musts=(other,)))
                self.refused(book(musts=(X, ("and", X, other))))
                self.refused(book(wishes=((1, other),)))
                self.refused(book(wishes=((1, A), (1, ("or", A, other)))))

    def test_over_all_names(self):
        all_lamps = ("and", ("and", A, B), ("and", X, Y))
        self.told_back(wide(
            promises=(("and", ("and", A, B), ("before", ("and", X, Y))),), musts=(all_lamps,),
            wishes=((1, all_lamps),)))

    def test_depth_eight_and_nine(self):
        self.told_back(book(promises=(deep(8),), musts=(deep(8),), wishes=((1, deep(8)),)))
        self.refused(book(promises=(deep(9),)))
        self.refused(book(musts=(deep(9),)))
        self.refused(book(wishes=((1, deep(9)),)))


class FriendsLampsInPromises(BookCase):
    def test_within_a_before(self):
        for lamp in (X, Y):
            with self.subTest(lamp=lamp):
                self.told_back(wide(promises=(("before", lamp),)))
                self.told_back(wide(promises=(("before", ("not", lamp)),)))
                self.told_back(wide(promises=(("before", ("and", lamp, A)),)))
                self.told_back(wide(promises=(("before", ("once", lamp)),)))
                self.told_back(wide(promises=(("once", ("before", lamp)),)))
                self.told_back(wide(promises=(("since", ("before", lamp), A),)))
                self.told_back(wide(promises=(("before", ("before", lamp)),)))
                self.told_back(wide(promises=(("and", A, ("not", ("before", ("or", B, lamp)))),)))

    def test_within_no_before(self):
        for lamp in (X, Y):
            with self.subTest(lamp=lamp):
                self.refused(wide(promises=(lamp,)))
                for word in ("not", "once", "sofar"):
                    self.refused(wide(promises=((word, lamp),)))
                    self.refused(wide(promises=((word, ("and", A, lamp)),)))
                for word in ("and", "or", "then", "same", "since"):
                    self.refused(wide(promises=((word, lamp, A),)))
                    self.refused(wide(promises=((word, A, lamp),)))
                    self.refused(wide(promises=((word, A, ("not", lamp)),)))

    def test_beside_a_before(self):
        for word in ("and", "or", "then", "same", "since"):
            with self.subTest(word=word):
                self.refused(wide(promises=((word, ("before", X), X),)))
                self.refused(wide(promises=((word, X, ("before", X)),)))
                self.refused(wide(promises=((word, ("before", A), Y),)))
                self.told_back(wide(promises=((word, ("before", X), A),)))
                self.told_back(wide(promises=((word, ("before", X), ("before", Y)),)))

    def test_in_each_promise(self):
        for row in ((X, A), (A, X), (X, A, A), (A, X, A), (A, A, X), (("before", X), X)):
            with self.subTest(row=row):
                self.refused(book(promises=row))

    def test_a_before_of_another_promise_does_not_help(self):
        self.refused(book(promises=(("before", X), ("not", X))))

    def test_foes_lamps_stand_where_they_like(self):
        for word in ("before", "once", "sofar", "not"):
            self.told_back(wide(promises=(A, B, (word, A))))

    def test_in_musts_and_wishes_they_stand_where_they_like(self):
        for saying in (X, ("not", Y), ("once", X), ("since", A, Y), ("before", X)):
            with self.subTest(saying=saying):
                self.told_back(wide(musts=(saying,)))
                self.told_back(wide(wishes=((1, saying),)))

    def test_which_side_a_name_is_on_counts(self):
        self.told_back(book(foe=("x",), friend=("a",), promises=(X,)))
        self.refused(book(foe=("x",), friend=("a",), promises=(A,)))


class Wishes(BookCase):
    def test_one_to_five_none_and_six(self):
        for number in range(1, 6):
            with self.subTest(number=number):
                self.told_back(book(wishes=((1, X),) * number))
        for number in (0, 6, 7, 1000000):
            with self.subTest(number=number):
                self.refused(book(wishes=((1, X),) * number))

    def test_prices(self):
        for price in range(1, 100):
            with self.subTest(price=price):
                self.told_back(book(wishes=((price, X),)))
        for price in (0, 100, -1, -99, 101, 10 ** 30, True, False, "1", "", None, 1.0, 50.5, (1,), [1], Untouchable()):
            with self.subTest(price=repr(price)):
                self.refused(book(wishes=((price, X),)))
                self.refused(book(wishes=((1, X), (price, X))))
                self.refused(book(wishes=((1, X),) * 4 + ((price, X),)))

    def test_parts_more_and_fewer(self):
        for wish in ((), (1,), (X,), (1, X, X), (1, X, 1), (1, 1, X), (X, 1)):
            with self.subTest(wish=wish):
                self.refused(book(wishes=(wish,)))
                self.refused(book(wishes=((1, X), wish)))

    def test_what_is_no_wish(self):
        for thing in odd_things() + [X, YES]:
            with self.subTest(kind=type(thing).__name__):
                self.refused(book(wishes=(thing,)))
                self.refused(book(wishes=((1, X), thing)))

    def test_a_wish_alone_is_no_tuple_of_wishes(self):
        self.refused(book(wishes=(1, X)))


class Pieces(BookCase):
    def test_none(self):
        self.assertEqual(book_pieces(book()), [])
        self.assertEqual(book_pieces(wide(promises=(A,), musts=(("or", X, Y),), wishes=((3, ("not", B)),))), [])

    def test_in_the_order_of_promises_musts_and_wishes(self):
        one = ("before", X)
        two = ("once", X)
        three = ("sofar", Y)
        four = ("since", A, Y)
        self.assertEqual(
            book_pieces(wide(promises=(("not", one),), musts=(two,), wishes=((1, three), (2, ("and", A, four))))),
            [one, two, three, four])
        self.assertEqual(
            book_pieces(wide(promises=(one,), musts=(four, three), wishes=((1, two),))),
            [one, four, three, two])
        self.assertEqual(
            book_pieces(wide(musts=(A, X, four), wishes=((1, A), (9, three), (1, two), (1, one), (1, YES)))),
            [four, three, two, one])

    def test_the_order_is_that_of_the_book_and_not_of_the_price(self):
        self.assertEqual(
            book_pieces(book(wishes=((9, ("once", X)), (1, ("once", A))))), [("once", X), ("once", A)])

    def test_in_each_of_three_promises_and_musts(self):
        rows = (("once", A), ("sofar", A), ("before", A))
        self.assertEqual(book_pieces(book(promises=rows)), list(rows))
        self.assertEqual(book_pieces(book(musts=rows)), list(rows))

    def test_pieces_within_pieces(self):
        inner = ("before", X)
        outer = ("once", ("not", inner))
        self.assertEqual(book_pieces(book(promises=(outer,))), [outer, inner])
        self.assertEqual(book_pieces(book(musts=(inner,), wishes=((1, outer),))), [inner, outer])
        self.assertEqual(
            book_pieces(book(musts=(outer, ("sofar", A)), wishes=((1, inner),))), [outer, inner, ("sofar", A)])

    def test_each_once_where_it_first_begins(self):
        piece = ("before", X)
        other = ("once", A)
        self.assertEqual(
            book_pieces(book(promises=(piece,), musts=(other, ("not", piece)), wishes=((1, piece), (2, other)))),
            [piece, other])

    def test_four_and_five(self):
        four = (("before", X), ("once", X), ("sofar", X), ("since", A, X))
        fifth = ("before", A)
        self.told_back(book(wishes=tuple((1, piece) for piece in four)))
        self.refused(book(wishes=tuple((1, piece) for piece in four + (fifth,))))
        self.told_back(book(promises=four[:1], musts=four[1:3], wishes=((1, four[3]),)))
        self.refused(book(promises=four[:1], musts=four[1:], wishes=((1, fifth),)))
        self.refused(book(promises=(fifth, four[0]), musts=four[1:]))
        self.refused(book(promises=(fifth,), musts=four[:3], wishes=((1, four[3]),)))

    def test_four_and_five_within_one_another(self):
        saying = X
        for word in ("before", "once", "sofar", "before"):
            saying = (word, saying)
        self.told_back(book(musts=(saying,)))
        self.assertEqual(len(book_pieces(book(musts=(saying,)))), 4)
        self.refused(book(musts=(("once", saying),)))
        self.refused(book(promises=(("once", saying),)))
        self.refused(book(wishes=((1, ("once", saying)),)))
        self.refused(book(musts=(("and", saying, ("once", A)),)))
        self.refused(book(musts=(("since", A, saying),)))

    def test_the_same_piece_several_times_counts_once(self):
        four = (("before", A), ("once", X), ("sofar", X), ("since", A, X))
        many = ("and", ("and", four[0], four[1]), ("and", four[2], four[3]))
        whole = book(
            promises=(four[0], ("not", four[0])), musts=(many, many, ("or", four[1], many)),
            wishes=tuple((1, ("then", many, piece)) for piece in four + (four[0],)))
        self.told_back(whole)
        self.assertEqual(book_pieces(whole), list(four))

    def test_pieces_alike_but_for_one_word(self):
        self.refused(wide(wishes=tuple((1, ("once", lamp)) for lamp in (A, B, X, Y)) + ((1, ("sofar", A)),)))
        self.told_back(wide(wishes=tuple((1, ("once", lamp)) for lamp in (A, B, X, Y, A))))


class NothingKept(BookCase):
    def test_a_new_list_each_time(self):
        whole = book(musts=(("once", X),), wishes=((1, ("before", A)),))
        first = book_pieces(whole)
        second = book_pieces(whole)
        self.assertEqual(first, second)
        self.assertIsNot(first, second)

    def test_changing_what_was_told_changes_no_later_answer(self):
        whole = book(musts=(("once", X),), wishes=((1, ("before", A)),))
        before = copy.deepcopy(whole)
        told = book_pieces(whole)
        told.append(YES)
        told[0] = None
        self.assertEqual(book_pieces(whole), [("once", X), ("before", A)])
        self.assertEqual(book_pieces(book()), [])
        self.assertEqual(whole, before)
        empty = book_pieces(book())
        empty.append(YES)
        self.assertEqual(book_pieces(book()), [])

    def test_what_was_refused_is_as_before(self):
        thing = [["a"], ["x"], [], [["lamp", "x"]], [[1, ["once", ["lamp", "a"]]]]]
        before = copy.deepcopy(thing)
        self.refused(thing)
        self.refused(tuple(thing))
        self.refused((("a",), ("x",), thing[2], thing[3], thing[4]))
        self.assertEqual(thing, before)

    def test_equal_books_give_equal_answers(self):
        whole = book(promises=(("before", X),), wishes=((1, ("once", A)),))
        again = copy.deepcopy(whole)
        for _ in range(2):
            self.assertEqual(checked(whole), checked(again))
            self.assertEqual(book_pieces(whole), book_pieces(again))
            self.refused(book(promises=(X,)))


if __name__ == "__main__":
    unittest.main()
