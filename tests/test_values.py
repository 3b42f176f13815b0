import copy
import itertools
import unittest

from helper import check_judge, plain_things
from noteboard.values import ahead, in_order, is_name, is_note, is_number, is_row, is_value, is_word

NUMBERS = [0, 1, 2, 9, 10, 98, 99]
NAMES = ["a", "z", "n", "ab", "is", "abc", "abcd", "zzzz"]
WORDS = NAMES + ["abcde", "abcdefg", "abcdefgh", "zzzzzzzz"]
BAD_TEXTS = ["a1", "1a", "A", "aA", "a b", " a", "a ", "a\n", "a_", "a~", "{", "`", "?a", "=a", "@1", "7", "ABCD"]
RIGHT_ROWS = [(0,), (99,), ("a",), ("abcdefgh",), ("a", 1), (1, "a"), (1, 1, 1), ("a", "a", 0, 99),
              ("a", "b", "c", "d"), (0, 0, 0, 0)]
BAD_ROWS = [(), (1, 2, 3, 4, 5), ("a", "b", "c", "d", "e"), (100,), (-1,), ("abcdefghi",), ("",), (True,), (False,),
            (None,), ("a", None), ("a", True), ("a", "b", "c", 100), ("a", ("b",)), ("a", ["b"]), ((1,),), ([1],),
            [1], ["a", "b"], "abcd", "a", 1, ("A",), ("a", "b", "c", "")]

# Each row is ahead of all that stand behind it.
RISING = [
    (0,), (0, 0), (0, 0, 0, 0), (0, 1), (0, "a"), (1,), (2,), (9,), (9, 99), (9, "a"), (9, "a", 0), (9, "a", "a"),
    (9, "b"), (10,), (10, 0), (10, 9), (10, 10), (98,), (99,), (99, 99), (99, "zzzzzzzz"),
    ("a",), ("a", 0), ("a", 2), ("a", 10), ("a", 10, 5), ("a", 10, "a"), ("a", "a"), ("a", "b"), ("aa",), ("ab",),
    ("ab", 1), ("abc",), ("b",), ("b", 0, 0, 0), ("b", 0, 0, 1), ("b", 0, 0, "a"), ("z",), ("zz",), ("zzzzzzzz",),
]


class JudgesTest(unittest.TestCase):
    def test_words(self):
        check_judge(self, is_word, WORDS, BAD_TEXTS + NUMBERS + RIGHT_ROWS + ["abcdefghij", ["a"], ["a", "b"]])

    def test_numbers(self):
        check_judge(self, is_number, NUMBERS, WORDS + RIGHT_ROWS + [-2, 199, 1000, "0", "99", [1], (1,)])

    def test_values(self):
        check_judge(self, is_value, NUMBERS + WORDS, BAD_TEXTS + RIGHT_ROWS + [("is", "a"), ["a"], -99])

    def test_names(self):
        wrong = ["abcde", "abcdefgh", "zzzzz", ["a"], ("a", "b")]
        check_judge(self, is_name, NAMES, BAD_TEXTS + NUMBERS + RIGHT_ROWS + wrong)

    def test_rows(self):
        check_judge(self, is_row, RIGHT_ROWS, BAD_ROWS + [(("a",), None), ((1,), 1)])

    def test_every_number_in_bounds_and_around(self):
        for thing in range(-130, 260):
            self.assertIs(is_number(thing), 0 <= thing <= 99)
            self.assertIs(is_value(thing), 0 <= thing <= 99)
            self.assertIs(is_row(("a", thing)), 0 <= thing <= 99)

    def test_every_length_of_text(self):
        for many in range(13):
            self.assertIs(is_word("q" * many), 1 <= many <= 8)
            self.assertIs(is_value("q" * many), 1 <= many <= 8)
            self.assertIs(is_name("q" * many), 1 <= many <= 4)

    def test_every_sign(self):
        for code in [10] + list(range(32, 127)):
            sign = chr(code)
            small = sign in "abcdefghijklmnopqrstuvwxyz"
            for text in (sign, sign + "a", "a" + sign, "a" + sign + "a"):
                with self.subTest(text=text):
                    self.assertIs(is_word(text), small)
                    self.assertIs(is_value(text), small)
                    self.assertIs(is_name(text), small)

    def test_every_length_of_row(self):
        for many in range(9):
            self.assertIs(is_row((1,) * many), 1 <= many <= 4)
            self.assertIs(is_row(("abcdefgh",) * many), 1 <= many <= 4)

    def test_notes(self):
        right = [(row, age) for row in RIGHT_ROWS for age in (None, 1, 2, 19, 20)]
        wrong = [(row, None) for row in BAD_ROWS] + [(row, 1) for row in BAD_ROWS]
        wrong += RIGHT_ROWS + [
            (("a",), 0), (("a",), 21), (("a",), -1), (("a",), 99), (("a",), True), (("a",), False), (("a",), "1"),
            (("a",), "a"), (("a",), ()), (("a",), [1]), (("a",), (1,)),
            (("a",),), (("a",), 1, 1), (("a",), None, None), (None, ("a",)), (1, ("a",)), [("a",), None], (["a"], None),
            (("a",), 10 ** 59),
        ]
        check_judge(self, is_note, right, wrong)

    def test_every_age(self):
        for age in range(-30, 130):
            self.assertIs(is_note((("a", 1), age)), 1 <= age <= 20)

    def test_judges_change_nothing(self):
        things = plain_things() + [[["a"], [1, [2]]], ([1], [None])]
        before = copy.deepcopy(things)
        for judge in (is_word, is_number, is_value, is_name, is_row, is_note):
            for thing in things:
                judge(thing)
        self.assertEqual(things, before)


class OrderTest(unittest.TestCase):
    def test_ahead_of_each_two(self):
        for k, one in enumerate(RISING):
            for n, other in enumerate(RISING):
                with self.subTest(one=one, other=other):
                    self.assertIs(ahead(one, other), k < n)

    def test_numbers_by_size_not_as_texts(self):
        self.assertIs(ahead((9,), (10,)), True)
        self.assertIs(ahead((10,), (9,)), False)
        self.assertIs(ahead(("a", 2), ("a", 11)), True)

    def test_words_as_texts_not_by_length(self):
        self.assertIs(ahead(("abcdefgh",), ("b",)), True)
        self.assertIs(ahead(("b",), ("abcdefgh",)), False)

    def test_first_difference_tells_not_length(self):
        self.assertIs(ahead((1, 1, 1, 1), (2,)), True)
        self.assertIs(ahead((2,), (1, 1, 1, 1)), False)
        self.assertIs(ahead(("a", 1, "z"), ("a", "a")), True)

    def test_no_row_is_ahead_of_itself(self):
        for row in RISING:
            self.assertIs(ahead(row, tuple(list(row))), False)

    def test_in_order_of_every_turn_of_some(self):
        rows = [(9,), (10,), (10, "a"), ("a",), ("a", 0)]
        for turned in itertools.permutations(rows):
            self.assertEqual(in_order(list(turned)), rows)
            self.assertEqual(in_order(turned), rows)

    def test_in_order_of_all(self):
        self.assertEqual(in_order(list(reversed(RISING))), RISING)
        self.assertEqual(in_order(tuple(reversed(RISING))), RISING)
        self.assertEqual(in_order(RISING[1::2] + RISING[::2]), RISING)

    def test_like_rows_stay_side_by_side(self):
        rows = [("b",), (1,), ("b",), (1, 2), (1,), ("b",)]
        self.assertEqual(in_order(rows), [(1,), (1,), (1, 2), ("b",), ("b",), ("b",)])
        self.assertEqual(in_order(tuple(rows)), [(1,), (1,), (1, 2), ("b",), ("b",), ("b",)])
        self.assertEqual(in_order([(3,), (3,)]), [(3,), (3,)])

    def test_of_none_and_of_one(self):
        self.assertEqual(in_order([]), [])
        self.assertEqual(in_order(()), [])
        self.assertEqual(in_order([("a",)]), [("a",)])
        self.assertEqual(in_order((("a",),)), [("a",)])

    def test_a_list_of_tuples_is_told(self):
        for rows in ([], (), [(2,), (1,)], ((2,), (1,))):
            told = in_order(rows)
            self.assertIs(told.__class__, list)
            for row in told:
                self.assertIs(row.__class__, tuple)

    def test_handed_in_is_unchanged(self):
        rows = [("b",), (2,), (1,), (2,)]
        in_order(rows)
        self.assertEqual(rows, [("b",), (2,), (1,), (2,)])
        turned = (("b",), (2,), (1,))
        in_order(turned)
        self.assertEqual(turned, (("b",), (2,), (1,)))

    def test_told_is_the_askers_own(self):
        for rows in ([], [(1,), (2,)], [(2,), (1,)]):
            before = list(rows)
            told = in_order(rows)
            told.append((99,))
            self.assertEqual(rows, before)
            self.assertEqual(in_order(rows), sorted(before))
            kept = in_order(rows)
            rows.append((0,))
            self.assertEqual(kept, sorted(before))


if __name__ == "__main__":
    unittest.main()
