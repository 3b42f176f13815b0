import copy
import itertools
import unittest

from helper import check_judge, plain_things
from noteboard.patterns import asks, binds, filled, fits, is_pattern, is_template, uses

ANY = ("any",)
WORD = ("word",)
NUMBER = ("number",)


def same(value):
    return ("is", value)


def bind(name):
    return ("bind", name)


def elder(name):
    return ("as", name)


def after(name):
    return ("next", name)


TERMS = [same(0), same(1), same(99), same("a"), same("abcdefgh"), same("any"), elder("a"), elder("abcd"), elder("is")]
PATTERN_FIELDS = TERMS + [ANY, WORD, NUMBER, bind("a"), bind("abcd"), bind("any")]
TEMPLATE_FIELDS = TERMS + [after("a"), after("abcd"), after("next")]
NO_FIELDS = [
    (), ("is",), ("as",), ("bind",), ("next",), ("is", 1, 1), ("as", "a", "a"), ("bind", "a", "b"), ("next", "a", "b"),
    ("any", "a"), ("word", "a"), ("number", 1), ("any", None), ("number", ()), ("is", 100), ("is", -1), ("is", None),
    ("is", True), ("is", False), ("is", ""), ("is", "abcdefghi"), ("is", "A"), ("is", "1"), ("is", ("a",)),
    ("is", ["a"]), ("is", ("is", "a")), ("as", ""), ("as", "abcde"), ("as", "A"), ("as", 1), ("as", None),
    ("as", ("a",)), ("as", ["a"]), ("as", "a b"), ("bind", ""), ("bind", "abcde"), ("bind", 0), ("bind", ("a",)),
    ("bind", ["a"]), ("bind", "a1"), ("next", ""), ("next", "abcde"), ("next", 1), ("next", ("a",)), ("next", ["a"]),
    ("next", None), ("no",), ("no", "a"), ("names", "a"), ("Is", "a"), ("", "a"), (None, "a"), (("is",), "a"),
    (["is"], "a"), (1, "a"), (True,), ("a", "is"), ["is", "a"], ["any"], ["bind", "a"], "any", "is", "a", 1, None, (ANY,),
    [ANY], (("is", "a"),), ("take", ANY), ("?",), ("?", "a"), ("value", "a"),
]
PATTERN_ALONE = [ANY, WORD, NUMBER, bind("a"), bind("abcd")]
TEMPLATE_ALONE = [after("a"), after("abcd")]


def rows_of_fields(fields):
    things = [(field,) for field in fields]
    things += [(one, other) for one in fields for other in fields[::4]]
    return things + [(field, fields[0], fields[-1]) for field in fields] + [(field,) * 4 for field in fields]


def rows_with_no_field(good, bad):
    things = []
    for field in bad:
        things += [(field,), (field, good), (good, field), (good, good, good, field)]
    return things


class JudgesTest(unittest.TestCase):
    def test_patterns(self):
        wrong = rows_with_no_field(same("a"), NO_FIELDS + TEMPLATE_ALONE)
        wrong += [(), [], (ANY,) * 5, (same(1),) * 5, [ANY], [same("a"), ANY], ANY, same("a"), bind("a"), "any"]
        check_judge(self, is_pattern, rows_of_fields(PATTERN_FIELDS), wrong)

    def test_templates(self):
        wrong = rows_with_no_field(same("a"), NO_FIELDS + PATTERN_ALONE)
        wrong += [(), [], (same(1),) * 5, (after("a"),) * 5, [same("a")], same("a"), after("a"), "next"]
        check_judge(self, is_template, rows_of_fields(TEMPLATE_FIELDS), wrong)

    def test_every_number_of_fields(self):
        for many in range(9):
            self.assertIs(is_pattern((ANY,) * many), 1 <= many <= 4)
            self.assertIs(is_pattern((bind("a"),) * many), 1 <= many <= 4)
            self.assertIs(is_template((same(1),) * many), 1 <= many <= 4)

    def test_each_rule_of_names_and_values_within(self):
        for number in range(-3, 130):
            self.assertIs(is_pattern((same(number),)), 0 <= number <= 99)
            self.assertIs(is_template((same(number),)), 0 <= number <= 99)
        for many in range(12):
            text = "q" * many
            self.assertIs(is_pattern((same(text),)), 1 <= many <= 8)
            self.assertIs(is_template((same(text),)), 1 <= many <= 8)
            self.assertIs(is_pattern((bind(text),)), 1 <= many <= 4)
            self.assertIs(is_pattern((elder(text),)), 1 <= many <= 4)
            self.assertIs(is_template((elder(text),)), 1 <= many <= 4)
            self.assertIs(is_template((after(text),)), 1 <= many <= 4)

    def test_names_need_not_be_known(self):
        self.assertIs(is_pattern((elder("a"), bind("a"), bind("a"), elder("b"))), True)
        self.assertIs(is_template((elder("zz"), after("yy"))), True)

    def test_judges_change_nothing(self):
        things = plain_things() + [[["is", "a"]], ([("is", ["a"])],)]
        before = copy.deepcopy(things)
        for thing in things:
            is_pattern(thing)
            is_template(thing)
        self.assertEqual(things, before)


class FitsTest(unittest.TestCase):
    def check(self, pattern, row, names, told):
        with self.subTest(pattern=pattern, row=row, names=names):
            answer = fits(pattern, row, names)
            self.assertEqual(answer, told)
            if told is None:
                self.assertIsNone(answer)
            else:
                self.assertIs(answer.__class__, tuple)
                for pair in answer:
                    self.assertIs(pair.__class__, tuple)

    def test_is(self):
        self.check((same("a"),), ("a",), (), ())
        self.check((same(0),), (0,), (), ())
        self.check((same(99),), (99,), (), ())
        self.check((same("a"),), ("b",), (), None)
        self.check((same("a"),), ("aa",), (), None)
        self.check((same("aa"),), ("a",), (), None)
        self.check((same(1),), (11,), (), None)
        self.check((same(1),), (2,), (), None)
        self.check((same(0),), ("a",), (), None)
        self.check((same("a"),), (0,), (), None)

    def test_is_takes_no_name(self):
        self.check((same("a"),), ("b",), (("a", "b"),), None)
        self.check((same("a"),), ("a",), (("a", "b"),), (("a", "b"),))

    def test_any_word_number(self):
        for value in (0, 1, 9, 99):
            self.check((ANY,), (value,), (), ())
            self.check((NUMBER,), (value,), (), ())
            self.check((WORD,), (value,), (), None)
        for value in ("a", "abcdefgh", "any", "word", "number"):
            self.check((ANY,), (value,), (), ())
            self.check((WORD,), (value,), (), ())
            self.check((NUMBER,), (value,), (), None)

    def test_unlike_lengths(self):
        for fields in range(1, 5):
            for values in range(1, 5):
                told = () if fields == values else None
                self.check((ANY,) * fields, (1,) * values, (), told)
                self.check((same(1),) * fields, (1,) * values, (), told)
                bound = (("n", 1),) if fields == values else None
                self.check((bind("n"),) * fields, (1,) * values, (), bound)

    def test_each_field_must_fit(self):
        pattern = (same("a"), WORD, NUMBER, ANY)
        self.check(pattern, ("a", "b", 1, 2), (), ())
        self.check(pattern, ("b", "b", 1, 2), (), None)
        self.check(pattern, ("a", 1, 1, 2), (), None)
        self.check(pattern, ("a", "b", "c", 2), (), None)
        self.check((ANY, ANY, ANY, same(1)), (1, 1, 1, 2), (), None)

    def test_bind(self):
        self.check((bind("n"),), (7,), (), (("n", 7),))
        self.check((bind("n"),), ("x",), (), (("n", "x"),))
        self.check((bind("n"),), (0,), (), (("n", 0),))

    def test_bind_of_a_name_with_another_value(self):
        self.check((bind("n"),), (7,), (("n", 3),), (("n", 7),))
        self.check((bind("n"),), ("x",), (("m", 1), ("n", 3), ("o", 2)), (("m", 1), ("n", "x"), ("o", 2)))
        self.check((bind("n"), bind("n")), (7, 7), (("n", 3),), (("n", 7),))
        self.check((bind("n"), bind("n")), (7, 3), (("n", 3),), None)
        self.check((bind("n"), bind("n")), (3, 7), (("n", 3),), None)

    def test_bind_twice_wants_one_value(self):
        self.check((bind("n"), bind("n")), (1, 1), (), (("n", 1),))
        self.check((bind("n"), bind("n")), ("a", "a"), (), (("n", "a"),))
        self.check((bind("n"), bind("n")), (0, 0), (), (("n", 0),))
        self.check((bind("n"), bind("n")), (1, 2), (), None)
        self.check((bind("n"), bind("n")), (0, 1), (), None)
        self.check((bind("n"), bind("n")), (1, "a"), (), None)
        self.check((bind("n"), ANY, ANY, bind("n")), (1, 2, 3, 1), (), (("n", 1),))
        self.check((bind("n"), ANY, ANY, bind("n")), (1, 2, 3, 4), (), None)
        self.check((bind("n"), bind("m"), bind("n")), (1, 2, 2), (), None)

    def test_as(self):
        self.check((elder("n"),), (7,), (("n", 7),), (("n", 7),))
        self.check((elder("n"),), ("x",), (("n", "x"),), (("n", "x"),))
        self.check((elder("n"),), (0,), (("n", 0),), (("n", 0),))
        self.check((elder("n"),), (8,), (("n", 7),), None)
        self.check((elder("n"),), ("n",), (("n", 7),), None)
        self.check((elder("m"),), (7,), (("m", 8), ("n", 7)), None)
        self.check((elder("n"), elder("n")), (7, 7), (("n", 7),), (("n", 7),))
        self.check((elder("n"), elder("n")), (7, 8), (("n", 7),), None)

    def test_as_of_a_name_without_value_fits_nothing(self):
        for value in (0, 1, "n", "none"):
            self.check((elder("n"),), (value,), (), None)
            self.check((elder("n"),), (value,), (("m", value),), None)
            self.check((elder("n"), bind("n")), (value, value), (), None)

    def test_as_ahead_of_the_bind_means_the_elder_one(self):
        pattern = (elder("n"), bind("n"))
        self.check(pattern, (3, 7), (("n", 3),), (("n", 7),))
        self.check(pattern, (3, 3), (("n", 3),), (("n", 3),))
        self.check(pattern, (7, 7), (("n", 3),), None)
        self.check(pattern, (7, 3), (("n", 3),), None)

    def test_as_behind_the_bind_means_the_new_one(self):
        pattern = (bind("n"), elder("n"))
        self.check(pattern, (7, 7), (), (("n", 7),))
        self.check(pattern, (7, 7), (("n", 3),), (("n", 7),))
        self.check(pattern, (7, 3), (("n", 3),), None)
        self.check(pattern, (7, 8), (), None)
        self.check((elder("n"), bind("n"), elder("n")), (3, 7, 7), (("n", 3),), (("n", 7),))
        self.check((elder("n"), bind("n"), elder("n")), (3, 7, 3), (("n", 3),), None)
        self.check((elder("n"), bind("n"), bind("n"), elder("n")), (3, 7, 7, 7), (("n", 3),), (("n", 7),))
        self.check((elder("n"), bind("n"), bind("n"), elder("n")), (3, 7, 3, 7), (("n", 3),), None)

    def test_names_told_rise(self):
        self.check((bind("z"), bind("b"), bind("a")), (1, 2, 3), (), (("a", 3), ("b", 2), ("z", 1)))
        self.check((bind("c"), bind("a")), (1, "x"), (("b", 5), ("d", 6)), (("a", "x"), ("b", 5), ("c", 1), ("d", 6)))
        self.check((bind("ab"), bind("b"), bind("a")), (1, "x", 2), (), (("a", 2), ("ab", 1), ("b", "x")))

    def test_names_handed_in_are_told_again(self):
        names = (("a", 1), ("abcd", "word"), ("zz", 99))
        self.check((ANY,), (5,), names, names)
        self.check((same(5),), (5,), names, names)
        self.check((bind("q"),), (5,), names, (("a", 1), ("abcd", "word"), ("q", 5), ("zz", 99)))

    def test_what_did_not_fit_binds_nothing(self):
        names = (("n", 3),)
        self.check((bind("n"), same(1)), (7, 2), names, None)
        self.assertEqual(names, (("n", 3),))
        self.check((elder("n"),), (3,), names, (("n", 3),))

    def test_asked_twice_it_answers_alike(self):
        self.check((bind("n"),), (7,), (), (("n", 7),))
        self.check((bind("n"),), (8,), (), (("n", 8),))
        self.check((elder("n"),), (7,), (), None)

    def test_held_against_the_words_of_the_document(self):
        fields = [same(1), WORD, bind("m"), bind("n"), elder("m"), elder("n")]
        for pattern in itertools.product(fields, repeat=3):
            for row in itertools.product((1, 2, "a"), repeat=3):
                for names in ((), (("n", 1),), (("m", 2), ("n", "a"))):
                    self.check(pattern, row, names, told_by_document(pattern, row, names))


def told_by_document(pattern, row, names):
    """Point 13 read field by field, each time looking back over the earlier fields."""
    for k, (field, value) in enumerate(zip(pattern, row)):
        earlier = [row[n] for n in range(k) if pattern[n] == ("bind", field[-1])]
        given = [pair[1] for pair in names if pair[0] == field[-1]]
        if field[0] == "is" and field[1] != value:
            return None
        if field[0] == "word" and not isinstance(value, str):
            return None
        if field[0] == "bind" and earlier and earlier[0] != value:
            return None
        if field[0] == "as" and (earlier or given)[:1] != [value]:
            return None
    bound = {field[1]: value for field, value in zip(pattern, row) if field[0] == "bind"}
    kept = [pair for pair in names if pair[0] not in bound]
    return tuple(sorted(kept + list(bound.items()), key=lambda pair: pair[0]))


class NamesOfTest(unittest.TestCase):
    def check(self, told, names):
        self.assertEqual(told, names)
        self.assertIs(told.__class__, tuple)

    def test_asks(self):
        self.check(asks((ANY, WORD, NUMBER, same("a"))), ())
        self.check(asks((elder("n"),)), ("n",))
        self.check(asks((bind("n"),)), ())
        self.check(asks((elder("z"), elder("b"), elder("a"), elder("ab"))), ("a", "ab", "b", "z"))
        self.check(asks((elder("n"), elder("n"), elder("n"), elder("n"))), ("n",))
        self.check(asks((elder("b"), elder("a"), elder("b"), elder("a"))), ("a", "b"))

    def test_asks_where_the_pattern_binds(self):
        self.check(asks((bind("n"), elder("n"))), ())
        self.check(asks((elder("n"), bind("n"))), ("n",))
        self.check(asks((elder("n"), bind("n"), elder("n"))), ("n",))
        self.check(asks((bind("n"), ANY, ANY, elder("n"))), ())
        self.check(asks((bind("n"), elder("m"), bind("m"), elder("n"))), ("m",))
        self.check(asks((bind("n"), elder("m"))), ("m",))

    def test_binds(self):
        self.check(binds((ANY, WORD, NUMBER, same("a"))), ())
        self.check(binds((elder("n"),)), ())
        self.check(binds((bind("n"),)), ("n",))
        self.check(binds((bind("z"), bind("b"), bind("a"), bind("ab"))), ("a", "ab", "b", "z"))
        self.check(binds((bind("n"), bind("n"), bind("n"), bind("n"))), ("n",))
        self.check(binds((bind("b"), bind("a"), bind("b"), bind("a"))), ("a", "b"))
        self.check(binds((elder("n"), bind("n"))), ("n",))
        self.check(binds((bind("n"), elder("n"))), ("n",))
        self.check(binds((bind("n"), elder("m"), same("q"))), ("n",))

    def test_uses(self):
        self.check(uses((same("a"), same(1))), ())
        self.check(uses((elder("n"),)), ("n",))
        self.check(uses((after("n"),)), ("n",))
        self.check(uses((after("n"), elder("n"), after("n"), elder("n"))), ("n",))
        self.check(uses((after("z"), elder("b"), after("a"), elder("ab"))), ("a", "ab", "b", "z"))
        self.check(uses((same("q"), after("b"), elder("a"), same(2))), ("a", "b"))


class FilledTest(unittest.TestCase):
    def check(self, template, names, row):
        with self.subTest(template=template, names=names):
            told = filled(template, names)
            self.assertEqual(told, row)
            self.assertIs(told.__class__, tuple)

    def test_is(self):
        self.check((same("a"),), (), ("a",))
        self.check((same(0), same(99), same("abcdefgh"), same("n")), (), (0, 99, "abcdefgh", "n"))
        self.check((same("n"),), (("n", 5),), ("n",))
        self.check((same(5),), (("n", 7),), (5,))

    def test_as(self):
        self.check((elder("n"),), (("n", 5),), (5,))
        self.check((elder("n"),), (("n", 99),), (99,))
        self.check((elder("n"),), (("n", 0),), (0,))
        self.check((elder("n"),), (("n", "word"),), ("word",))
        self.check((elder("m"), elder("n")), (("m", 1), ("n", 2)), (1, 2))
        self.check((elder("n"), elder("m")), (("m", 1), ("n", 2)), (2, 1))

    def test_next_of_a_number(self):
        for number in range(100):
            self.check((after("n"),), (("n", number),), ((number + 1) % 100,))

    def test_next_of_ninety_nine_is_nought(self):
        self.check((after("n"),), (("n", 99),), (0,))
        self.check((after("n"),), (("n", 98),), (99,))

    def test_next_of_a_word_is_the_word(self):
        for word in ("a", "z", "zzzzzzzz", "abcdefgh"):
            self.check((after("n"),), (("n", word),), (word,))

    def test_names_that_the_template_does_not_use(self):
        names = (("a", 1), ("b", "x"), ("c", 99))
        self.check((same("q"),), names, ("q",))
        self.check((after("a"), same("q"), elder("b")), names, (2, "q", "x"))
        self.check((after("c"), elder("c"), after("a"), elder("a")), names, (0, 99, 2, 1))
        self.assertEqual(names, (("a", 1), ("b", "x"), ("c", 99)))

    def test_one_name_many_times(self):
        self.check((elder("n"), after("n"), elder("n"), after("n")), (("n", 4),), (4, 5, 4, 5))

    def test_what_is_filled_is_fitted(self):
        names = (("m", "w"), ("n", 41))
        row = filled((same("k"), after("n"), elder("m")), names)
        self.assertEqual(fits((same("k"), bind("n"), elder("m")), row, names), (("m", "w"), ("n", 42)))


if __name__ == "__main__":
    unittest.main()
