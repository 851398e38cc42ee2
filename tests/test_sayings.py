import unittest

from leastloss.errors import NoSaying
from leastloss.sayings import checked_saying, depth, past_pieces, waiting
from tests.things import NO_NAMES, YES, deep, nested_tuples, no_tuples

NAMES = ("a", "b")
A = ("lamp", "a")
B = ("lamp", "b")
NO = ("no",)
WORDS_OF_ONE = ("not", "before", "once", "sofar")
WORDS_OF_TWO = ("and", "or", "then", "same", "since")
PAST_OF_ONE = ("before", "once", "sofar")


def one_of_each():
    kinds = [YES, NO, A]
    kinds += [(word, A) for word in WORDS_OF_ONE]
    kinds += [(word, A, B) for word in WORDS_OF_TWO]
    return kinds


class SayingCase(unittest.TestCase):
    def told_back(self, names, saying):
        self.assertEqual(checked_saying(names, saying), saying)

    def refused(self, names, saying):
        with self.assertRaises(NoSaying):
            checked_saying(names, saying)


class CheckedSaying(SayingCase):
    def test_the_twelve_kinds_are_told_back(self):
        self.assertEqual(len(one_of_each()), 12)
        for saying in one_of_each():
            with self.subTest(saying=saying):
                self.told_back(NAMES, saying)

    def test_each_kind_may_stand_within_each(self):
        for inner in one_of_each():
            for word in WORDS_OF_ONE:
                with self.subTest(inner=inner, word=word):
                    self.told_back(NAMES, (word, inner))
            for word in WORDS_OF_TWO:
                with self.subTest(inner=inner, word=word):
                    self.told_back(NAMES, (word, inner, B))
                    self.told_back(NAMES, (word, B, inner))

    def test_a_part_more_is_refused(self):
        for saying in one_of_each():
            for more in (YES, A, "a", None):
                with self.subTest(saying=saying, more=more):
                    self.refused(NAMES, saying + (more,))

    def test_a_part_fewer_is_refused(self):
        for saying in one_of_each():
            with self.subTest(saying=saying):
                self.refused(NAMES, saying[:-1])
        for word in WORDS_OF_ONE + WORDS_OF_TWO + ("lamp",):
            with self.subTest(word=word):
                self.refused(NAMES, (word,))

    def test_a_list_in_the_place_of_a_tuple_is_refused(self):
        for saying in one_of_each():
            with self.subTest(saying=saying):
                self.refused(NAMES, list(saying))
                for word in WORDS_OF_ONE:
                    self.refused(NAMES, (word, list(saying)))
                for word in WORDS_OF_TWO:
                    self.refused(NAMES, (word, list(saying), A))
                    self.refused(NAMES, (word, A, list(saying)))

    def test_what_is_no_tuple_is_refused(self):
        for thing in no_tuples():
            with self.subTest(kind=type(thing).__name__):
                self.refused(NAMES, thing)

    def test_what_is_no_saying_is_refused_within_others(self):
        for thing in no_tuples() + [(), ("maybe",), ("lamp", "c")]:
            for word in WORDS_OF_ONE:
                with self.subTest(kind=type(thing).__name__, word=word):
                    self.refused(NAMES, (word, thing))
            for word in WORDS_OF_TWO:
                with self.subTest(kind=type(thing).__name__, word=word):
                    self.refused(NAMES, (word, thing, A))
                    self.refused(NAMES, (word, A, thing))

    def test_an_empty_tuple_is_refused(self):
        self.refused(NAMES, ())
        self.refused((), ())

    def test_a_word_that_begins_no_saying_is_refused(self):
        for word in ("maybe", "", "a", "foe", "friend", "promise", "must", "wish", "Yes", "NOT", "yes ", "until"):
            with self.subTest(word=word):
                self.refused(NAMES, (word,))
                self.refused(NAMES, (word, A))
                self.refused(NAMES, (word, "a"))
                self.refused(NAMES, (word, A, B))

    def test_what_is_no_text_begins_no_saying(self):
        for thing in no_tuples() + [YES, ("not",)]:
            if not isinstance(thing, str):
                with self.subTest(kind=type(thing).__name__):
                    self.refused(NAMES, (thing,))
                    self.refused(NAMES, (thing, A))
                    self.refused(NAMES, (thing, A, B))


class Names(SayingCase):
    def named(self, name):
        self.told_back((name,), ("lamp", name))

    def not_named(self, name):
        self.refused((name,), ("lamp", name))

    def test_names_of_one_to_eight_letters(self):
        for length in range(1, 9):
            with self.subTest(length=length):
                self.named("abcdefgh"[:length])
                self.named("z" * length)

    def test_each_letter_is_a_name(self):
        for letter in "abcdefghijklmnopqrstuvwxyz":
            with self.subTest(letter=letter):
                self.named(letter)
                self.named("x" + letter)

    def test_no_letter_and_more_than_eight(self):
        self.not_named("")
        self.not_named("abcdefghi")
        self.not_named("a" * 1000)

    def test_a_sign_that_is_no_letter_from_a_to_z(self):
        for sign in "`{AZ09_ -.'\n\t\0\u00e4\u00df\u0131\u03b1\u0430\u1d43\uff41\U0001d41a":
            with self.subTest(sign=sign):
                self.not_named(sign)
                self.not_named("a" + sign)
                self.not_named(sign + "a")
                self.not_named("a" + sign + "a")

    def test_the_sixteen_words_are_no_names(self):
        self.assertEqual(len(set(NO_NAMES)), 16)
        for word in NO_NAMES:
            with self.subTest(word=word):
                self.not_named(word)
                self.refused(("a", word), ("lamp", word))

    def test_words_close_to_those_are_names(self):
        self.named("lamp")
        for word in NO_NAMES:
            with self.subTest(word=word):
                self.named((word + "x")[:8])
                if word[:-1] not in NO_NAMES:
                    self.named(word[:-1])

    def test_a_lamp_of_none_of_the_names(self):
        self.refused(("a", "b"), ("lamp", "c"))
        self.refused(("ab",), ("lamp", "a"))
        self.refused(("ab",), ("lamp", "b"))
        self.refused(("a",), ("lamp", "aa"))
        self.refused((), ("lamp", "a"))
        self.refused(("a",), ("and", A, B))
        self.refused(("a",), ("and", B, A))
        self.refused(("a",), ("not", B))

    def test_a_lamp_of_any_of_the_names(self):
        for name in ("a", "b", "c", "d", "e"):
            with self.subTest(name=name):
                self.told_back(("a", "b", "c", "d", "e"), ("lamp", name))

    def test_sayings_without_lamps_need_no_names(self):
        self.told_back((), ("since", YES, ("not", NO)))

    def test_a_name_that_is_no_text(self):
        for thing in no_tuples() + [("a",), A, ()]:
            if not isinstance(thing, str):
                with self.subTest(kind=type(thing).__name__):
                    self.refused(NAMES, ("lamp", thing))


class DepthBound(SayingCase):
    def test_depth_eight_is_told_back_and_nine_refused(self):
        for core in (YES, NO, A):
            for word in WORDS_OF_ONE:
                with self.subTest(core=core, word=word):
                    self.told_back(NAMES, deep(8, word, core))
                    self.refused(NAMES, deep(9, word, core))
                    self.refused(NAMES, deep(10, word, core))

    def test_the_deeper_part_counts_on_either_side(self):
        for word in WORDS_OF_TWO:
            for shallow in (YES, deep(3), deep(7)):
                with self.subTest(word=word, shallow=shallow):
                    self.told_back(NAMES, (word, deep(7), shallow))
                    self.told_back(NAMES, (word, shallow, deep(7)))
                    self.refused(NAMES, (word, deep(8), shallow))
                    self.refused(NAMES, (word, shallow, deep(8)))

    def test_two_parts_at_each_layer(self):
        saying = A
        for _ in range(7):
            saying = ("and", saying, saying)
        self.told_back(NAMES, saying)
        self.refused(NAMES, ("and", saying, saying))

    def test_no_other_error_however_deep(self):
        for word in WORDS_OF_ONE:
            self.refused(NAMES, deep(100000, word))
        self.refused(NAMES, deep(100000, "not", []))
        left = right = both = A
        for _ in range(5000):
            left = ("and", left, A)
            right = ("and", A, right)
            both = ("since", both, both)
        self.refused(NAMES, left)
        self.refused(NAMES, right)
        self.refused(NAMES, both)

    def test_no_other_error_for_nested_tuples_and_lists(self):
        self.refused(NAMES, nested_tuples())
        ring = ["not"]
        ring.append(tuple(ring))
        self.refused(NAMES, ("not", ring))
        loop = []
        saying = ("not", loop)
        loop.append(saying)
        self.refused(NAMES, saying)

    def test_very_long_things(self):
        self.refused(NAMES, (YES,) * 1000000)
        self.refused(NAMES, ("and",) + (A,) * 1000000)
        self.refused(NAMES, ("lamp", "a" * 1000000))


class Depth(unittest.TestCase):
    def test_without_sayings_within(self):
        for saying in (YES, NO, A, ("lamp", "b")):
            with self.subTest(saying=saying):
                self.assertEqual(depth(saying), 1)

    def test_with_one_saying_within(self):
        for word in WORDS_OF_ONE:
            with self.subTest(word=word):
                self.assertEqual(depth((word, A)), 2)
                self.assertEqual(depth((word, ("not", YES))), 3)
                self.assertEqual(depth((word, ("and", A, ("not", B)))), 4)

    def test_with_two_sayings_within(self):
        for word in WORDS_OF_TWO:
            with self.subTest(word=word):
                self.assertEqual(depth((word, A, B)), 2)
                self.assertEqual(depth((word, ("not", A), B)), 3)
                self.assertEqual(depth((word, A, ("not", B))), 3)
                self.assertEqual(depth((word, ("not", A), ("not", B))), 3)
                self.assertEqual(depth((word, deep(5), deep(3))), 6)
                self.assertEqual(depth((word, deep(3), deep(5))), 6)

    def test_a_name_is_no_saying_within(self):
        self.assertEqual(depth(("lamp", "abcdefgh")), 1)
        self.assertEqual(depth(("lamp", "lamp")), 1)

    def test_at_and_beyond_the_bound(self):
        for wanted in range(1, 21):
            with self.subTest(wanted=wanted):
                self.assertEqual(depth(deep(wanted)), wanted)
        self.assertEqual(depth(deep(2000)), 2000)


class Waiting(SayingCase):
    def test_the_very_tuple(self):
        self.assertEqual(
            waiting(A, B),
            ("not", ("since", ("not", ("lamp", "b")), ("and", ("lamp", "a"), ("not", ("lamp", "b"))))),
        )
        self.assertEqual(
            waiting(B, A),
            ("not", ("since", ("not", ("lamp", "a")), ("and", ("lamp", "b"), ("not", ("lamp", "a"))))),
        )

    def test_with_sayings_of_each_kind(self):
        for r in one_of_each():
            for g in one_of_each():
                with self.subTest(r=r, g=g):
                    self.assertEqual(waiting(r, g), ("not", ("since", ("not", g), ("and", r, ("not", g)))))

    def test_it_is_a_saying_up_to_the_bound(self):
        self.told_back(NAMES, waiting(deep(5), deep(4)))
        self.assertEqual(depth(waiting(deep(5), deep(4))), 8)

    def test_however_deep(self):
        for r, g in ((deep(6), A), (A, deep(5)), (deep(8), deep(8)), (deep(30), deep(40)), (deep(2000), deep(3000))):
            told = waiting(r, g)
            self.assertTrue(told[1][1][1] is g and told[1][2][1] is r and told[1][2][2][1] is g)
            self.assertEqual(told[0], "not")
            self.assertEqual(told[1][0], "since")
            self.assertEqual(told[1][1][0], "not")
            self.assertEqual(told[1][2][0], "and")
            self.assertEqual(told[1][2][2][0], "not")
            self.assertEqual(depth(told), max(depth(r) + 3, depth(g) + 4))
            self.refused(NAMES, told)

    def test_a_waiting_within_a_waiting(self):
        inner = waiting(A, B)
        told = waiting(inner, inner)
        self.assertEqual(told, ("not", ("since", ("not", inner), ("and", inner, ("not", inner)))))
        self.refused(NAMES, told)


class PastPieces(unittest.TestCase):
    def test_none(self):
        for saying in (YES, NO, A, ("not", A), ("and", A, B), ("or", ("not", A), ("then", B, ("same", A, YES)))):
            with self.subTest(saying=saying):
                self.assertEqual(past_pieces(saying), [])

    def test_each_past_word_is_a_piece(self):
        for saying in [(word, A) for word in PAST_OF_ONE] + [("since", A, B)]:
            with self.subTest(saying=saying):
                self.assertEqual(past_pieces(saying), [saying])

    def test_a_lamp_that_is_called_like_no_piece(self):
        self.assertEqual(past_pieces(("lamp", "beforex")), [])

    def test_within_the_kinds_with_one_part(self):
        piece = ("once", B)
        self.assertEqual(past_pieces(("not", piece)), [piece])
        for word in PAST_OF_ONE:
            with self.subTest(word=word):
                self.assertEqual(past_pieces((word, piece)), [(word, piece), piece])

    def test_in_both_parts_of_the_kinds_with_two(self):
        first = ("once", A)
        second = ("before", B)
        for word in ("and", "or", "then", "same"):
            with self.subTest(word=word):
                self.assertEqual(past_pieces((word, first, second)), [first, second])
                self.assertEqual(past_pieces((word, second, first)), [second, first])
                self.assertEqual(past_pieces((word, A, second)), [second])
                self.assertEqual(past_pieces((word, first, B)), [first])
        self.assertEqual(past_pieces(("since", first, second)), [("since", first, second), first, second])
        self.assertEqual(past_pieces(("since", second, first)), [("since", second, first), second, first])

    def test_pieces_within_pieces_stand_behind_them(self):
        inner = ("before", A)
        middle = ("once", ("not", inner))
        outer = ("sofar", ("or", B, middle))
        self.assertEqual(past_pieces(outer), [outer, middle, inner])

    def test_all_of_the_first_part_comes_ahead_of_the_second(self):
        first = ("once", ("before", A))
        second = ("sofar", ("before", B))
        self.assertEqual(
            past_pieces(("and", first, second)), [first, ("before", A), second, ("before", B)])

    def test_the_same_piece_twice_is_told_once(self):
        piece = ("once", A)
        again = ("once", ("lamp", "a"))
        for word in ("and", "or", "then", "same"):
            with self.subTest(word=word):
                self.assertEqual(past_pieces((word, piece, again)), [piece])
        self.assertEqual(past_pieces(("since", piece, again)), [("since", piece, again), piece])

    def test_a_piece_stands_where_it_first_begins(self):
        piece = ("before", A)
        other = ("once", B)
        self.assertEqual(
            past_pieces(("and", piece, ("and", other, piece))), [piece, other])
        self.assertEqual(
            past_pieces(("and", ("once", piece), ("and", other, piece))), [("once", piece), piece, other])
        self.assertEqual(
            past_pieces(("and", piece, ("sofar", piece))), [piece, ("sofar", piece)])

    def test_unlike_pieces_are_told_apart(self):
        pieces = [("once", A), ("once", B), ("sofar", A), ("before", A), ("since", A, B), ("since", B, A)]
        saying = YES
        for piece in reversed(pieces):
            saying = ("and", piece, saying)
        self.assertEqual(past_pieces(saying), pieces)

    def test_of_the_waiting_saying(self):
        self.assertEqual(past_pieces(waiting(A, B)), [("since", ("not", B), ("and", A, ("not", B)))])
        told = waiting(("once", A), ("before", B))
        self.assertEqual(past_pieces(told), [told[1], ("before", B), ("once", A)])

    def test_beyond_the_bound_of_depth(self):
        saying = deep(12, "once", A)
        self.assertEqual(past_pieces(saying), [deep(k, "once", A) for k in range(12, 1, -1)])


class NothingKept(unittest.TestCase):
    def test_a_new_list_each_time(self):
        saying = ("and", ("once", A), ("before", B))
        first = past_pieces(saying)
        second = past_pieces(saying)
        self.assertEqual(first, second)
        self.assertIsNot(first, second)
        self.assertIs(type(first), list)

    def test_changing_what_was_told_changes_no_later_answer(self):
        saying = ("and", ("once", A), ("before", B))
        told = past_pieces(saying)
        told.append(("yes",))
        told[0] = None
        self.assertEqual(past_pieces(saying), [("once", A), ("before", B)])
        self.assertEqual(saying, ("and", ("once", ("lamp", "a")), ("before", ("lamp", "b"))))
        empty = past_pieces(A)
        empty.append(("yes",))
        self.assertEqual(past_pieces(A), [])
        self.assertEqual(past_pieces(B), [])

    def test_what_was_refused_is_as_before(self):
        inner = ["lamp", "a"]
        with self.assertRaises(NoSaying):
            checked_saying(NAMES, ("not", inner))
        self.assertEqual(inner, ["lamp", "a"])

    def test_a_refusal_changes_no_later_answer(self):
        for _ in range(2):
            self.assertEqual(checked_saying(NAMES, ("not", A)), ("not", A))
            with self.assertRaises(NoSaying):
                checked_saying(("b",), ("not", A))
        self.assertEqual(depth(("not", A)), depth(("not", ("lamp", "a"))))


if __name__ == "__main__":
    unittest.main()
