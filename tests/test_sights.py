import copy
import random
import unittest

from helper import (A, ALWAYS, Board, NEVER, at, check_judge, is_seen, made_plans, made_sight, made_stand, notes_of,
                    plain_things, plan_of, sight_of)
from noteboard.sights import is_plain, is_sight, sees

# The first hand has a block of two acts and one of none, the second one a block without acts.
TWO = plan_of("hand; block; take ?n; lay =n; block; hand; block")[0]


def wrapped(sight, times, head="not"):
    """The sight within so many others."""
    for _ in range(times):
        sight = ("not", sight) if head == "not" else (head, (sight,))
    return sight


class IsSightTest(unittest.TestCase):
    def check(self, programs, thing, told):
        kept = copy.deepcopy(thing)
        with self.subTest(thing=repr(thing)[:300]):
            self.assertIs(is_sight(programs, thing), told)
            self.assertEqual(repr(thing), repr(kept))

    def test_each_sort(self):
        def judge(thing):
            return is_sight(TWO, thing)

        right = [A, ("notes", (("any",), ("word",), ("number",), ("bind", "n")), 9), ("at", 0, 0, 0), ("at", 0, 0, 2),
                 ("at", 0, 1, 0), ("at", 1, 0, 0), ("ended", 0), ("ended", 1), ("not", A),
                 ("not", ("not", ("ended", 1))), ALWAYS, NEVER, ("all", (A,)), ("some", (A, ("ended", 0))),
                 ("all", (NEVER, ("some", (ALWAYS, A)), A)),
                 ("not", ("all", (("some", (("at", 0, 0, 1),)), ("not", ("ended", 1)))))]
        wrong = [(), ("notes",), ("notes", (("any",),)), A + (1,), ("at", 0, 0), ("at", 0, 0, 0, 0), ("at",),
                 ("ended",),
                 ("ended", 0, 0), ("not",), ("not", A, A), ("not", (A,)), ("not", ()), ("all",), ("some",), ("all", A),
                 ("all", (), ()), ("some", (), ()), ("some", A), ("all", [A]), ("some", [A]), ("all", (A, None)),
                 ("some", (None, A)), ("none", A), ("seen", A), (A,), [A], "notes", "all", ("sees", 0), ("begun", 0),
                 ("all", ((),)), ("not", None), ("not", True), ("all", ("ended", 0)), ("no", A)]
        check_judge(self, judge, right, wrong)

    def test_how_many(self):
        for many in range(1, 10):
            self.check(TWO, ("notes", (("any",),), many), True)
        for many in (0, -1, 10, 11, 99, 10 ** 59, True, False, None, "1", (1,), [1]):
            self.check(TWO, ("notes", (("any",),), many), False)

    def test_patterns(self):
        for text in ("?", "$", "#", "a", "0", "99", "?n", "?n ?n", "?a ?b ?c ?d", "? $ # x"):
            self.check(TWO, sight_of(text), True)
            self.check((), sight_of(text), True)
        for pattern in ((), (("any",),) * 5, [("any",)], ("any",), None, "a", (("next", "n"),), (["any"],),
                        (("is", 100),), (("is", True),), (("bind", "abcde"),)):
            self.check(TWO, ("notes", pattern, 1), False)

    def test_patterns_with_as(self):
        for pattern in ((("as", "n"),), (("bind", "n"), ("as", "n")), (("as", "n"), ("bind", "n")),
                        (("any",), ("any",), ("any",), ("as", "x"))):
            self.check(TWO, ("notes", pattern, 1), False)
            self.check(TWO, ("not", ("notes", pattern, 1)), False)

    def test_hands(self):
        for hand in (0, 1):
            self.check(TWO, ("ended", hand), True)
            self.check(TWO, ("at", hand, 0, 0), True)
        for hand in (2, 3, -1, -2, 99, 10 ** 59, True, False, None, "0", (), (0,), [0]):
            self.check(TWO, ("ended", hand), False)
            self.check(TWO, ("at", hand, 0, 0), False)
        for hand in (0, -1, None):
            self.check((), ("ended", hand), False)
            self.check((), ("at", hand, 0, 0), False)

    def test_blocks_and_places(self):
        for number, place in ((0, 0), (0, 1), (0, 2), (1, 0)):
            self.check(TWO, ("at", 0, number, place), True)
        for number, place in ((0, 3), (1, 1), (2, 0), (-1, 0), (0, -1), (True, 0), (0, True), (False, 0), (0, False),
                              (None, 0), (0, None), ("0", 0), (0, "0"), ((), 0), (0, ()), ([0], 0), (0, [0]), (6, 0),
                              (0, 9)):
            self.check(TWO, ("at", 0, number, place), False)
        self.check(TWO, ("at", 1, 0, 1), False)
        self.check(TWO, ("at", 1, 1, 0), False)

    def test_none_in_all_and_in_some(self):
        for programs in ((), TWO):
            self.check(programs, ALWAYS, True)
            self.check(programs, NEVER, True)
            self.check(programs, ("all", []), False)
            self.check(programs, ("some", []), False)

    def test_forty_in_all(self):
        for head in ("not", "all", "some"):
            self.check(TWO, wrapped(A, 39, head), True)
            self.check(TWO, wrapped(A, 40, head), False)
            self.check(TWO, wrapped(A, 26, head), True)
        for head in ("all", "some"):
            self.check(TWO, (head, (A,) * 39), True)
            self.check(TWO, (head, (A,) * 40), False)
            self.check(TWO, (head, (ALWAYS,) * 39), True)
            self.check(TWO, (head, (NEVER,) * 40), False)
            self.check(TWO, (head, (A,) * 3000), False)
            self.check(TWO, (head, ((head, (A,) * 18), (head, (A,) * 19))), True)
            self.check(TWO, (head, ((head, (A,) * 19), (head, (A,) * 19))), False)
            self.check(TWO, (head, (wrapped(A, 18), wrapped(A, 19))), True)
            self.check(TWO, (head, (wrapped(A, 19), wrapped(A, 19))), False)

    def test_wrong_within(self):
        for bad in plain_things() + [("ended", 2), ("notes", (("any",),), 0), ("at", 0, 0, 3)]:
            for sight in (("not", bad), ("all", (bad,)), ("some", (A, bad, A)),
                          ("not", ("all", (A, ("some", (bad,)))))):
                self.check(TWO, sight, False)

    def test_deep_things(self):
        thing = ()
        for _ in range(29):
            thing = ("all", (thing,))
        self.check(TWO, thing, False)
        self.check(TWO, wrapped((), 59), False)
        self.check(TWO, wrapped(A, 55), False)


class IsPlainTest(unittest.TestCase):
    def check(self, sight, told):
        kept = copy.deepcopy(sight)
        with self.subTest(sight=sight):
            self.assertIs(is_plain(sight), told)
            self.assertEqual(sight, kept)

    def test_plain(self):
        for sight in (A, ("at", 0, 0, 0), ("ended", 0), ALWAYS, NEVER, ("all", (A, NEVER)),
                      ("some", (("all", (A, A)), A)), wrapped(A, 39, "all"), wrapped(A, 39, "some"),
                      ("notes", (("is", "not"),), 1)):
            self.check(sight, True)
            self.check(("not", sight), False)
            self.check(("all", (A, ("not", sight))), False)

    def test_not_plain(self):
        for sight in (wrapped(A, 1), wrapped(A, 2), wrapped(A, 39), ("all", (A, ("not", A))), ("some", (("not", A), A)),
                      ("all", (A, ("some", (A, ("all", (("not", ALWAYS),)), A)))), wrapped(("not", A), 38, "all")):
            self.check(sight, False)


class SeesTest(unittest.TestCase):
    def check(self, stand, sight, told, programs=TWO):
        kept = copy.deepcopy((stand, sight))
        with self.subTest(stand=stand, sight=sight):
            self.assertIs(is_sight(programs, sight), True)
            self.assertIs(sees(programs, stand, sight), told)
            self.assertIs(sees(programs, stand, ("not", sight)), not told)
            self.assertEqual(repr((stand, sight)), repr(kept))

    def notes(self, text, pattern, fitting):
        for many in range(1, 10):
            self.check(((), notes_of(text)), sight_of(pattern, many), fitting >= many, ())

    def test_notes(self):
        self.notes("", "?", 0)
        self.notes("a", "?", 1)
        self.notes("a; b; 1", "?", 3)
        self.notes("a; b; 1", "$", 2)
        self.notes("a; b; 1", "#", 1)
        self.notes("a; b; 1", "? ?", 0)
        self.notes("a; a @1; a @20; b; a", "a", 4)
        self.notes("; ".join(["a 1"] * 9), "a ?", 9)
        self.notes("; ".join(["a 1"] * 30), "a ?n", 30)
        self.notes("; ".join(["b", "a 1"] * 8), "a #", 8)

    def test_a_bind_told_twice(self):
        self.notes("1 1; 1 2; a a; a b; a 1", "?n ?n", 2)
        self.notes("1 1; 1 2; a a; a b; a 1", "?m ?n", 5)
        self.notes("a b a b; a b b a; b b b b", "?m ?n ?m ?n", 2)

    def test_with_no_names(self):
        """A hand's names are nothing to a sight."""
        stand = ((at(0, 1, n=5), at(0, 0)), notes_of("6"))
        self.check(stand, sight_of("?n"), True)
        self.check(stand, sight_of("?n", 2), False)

    def test_at(self):
        for number, place, names in ((0, 0, {}), (0, 1, {"n": 1}), (0, 2, {"n": 0}), (1, 0, {})):
            stand = ((at(number, place, **names), at(0, 0)), ())
            for other, there in ((0, 0), (0, 1), (0, 2), (1, 0)):
                self.check(stand, ("at", 0, other, there), (number, place) == (other, there))
            self.check(stand, ("at", 1, 0, 0), True)

    def test_ended(self):
        for hand, told in ((at(0, 0), False), (at(0, 1, n=1), False), (at(0, 2, n=1), True), (at(1, 0), True)):
            self.check(((hand, at(0, 0)), notes_of("a")), ("ended", 0), told)
            self.check(((hand, at(0, 0)), ()), ("ended", 1), True)
        waiting = plan_of("hand; block; take a")[0]
        self.check(((at(0, 0),), ()), ("ended", 0), False, waiting)

    def test_not_all_and_some(self):
        stand = ((at(0, 0), at(0, 0)), notes_of("a"))
        true, false = A, sight_of("b")
        self.check(stand, ALWAYS, True)
        self.check(stand, NEVER, False)
        self.check(stand, wrapped(true, 38), True)
        self.check(stand, wrapped(true, 37), False)
        for head, rows in (("all", ((true,), (true, true), (true, ALWAYS, ("not", false)))),
                           ("some", ((true,), (false, true), (true, false), (false, NEVER, ("not", false))))):
            for sights in rows:
                self.check(stand, (head, sights), True)
        for head, rows in (("all", ((false,), (true, false), (false, true), (true, true, NEVER))),
                           ("some", ((false,), (false, false, NEVER), (("not", true),)))):
            for sights in rows:
                self.check(stand, (head, sights), False)

    def test_within_one_another(self):
        stand = ((at(0, 1, n="a"), at(0, 0)), notes_of("a; b"))
        either = ("some", (sight_of("c"), sight_of("b")))
        inner = ("all", (("at", 0, 0, 1), either, ("not", ("ended", 0)), ("ended", 1)))
        self.check(stand, inner, True)
        self.check(stand, ("some", (NEVER, ("all", (inner, ALWAYS)))), True)
        self.check(stand, ("all", (inner, ("not", ("some", (inner, NEVER))))), False)
        self.check(((at(0, 2, n="a"), at(0, 0)), stand[1]), inner, False)
        self.check((stand[0], notes_of("a")), inner, False)

    def test_as_told_once_more(self):
        source = random.Random(101)
        seen = []
        for programs, notes in made_plans(101, 200):
            stand = made_stand(source, programs)
            board = Board(programs, stand)
            for _ in range(4):
                sight = made_sight(source, programs, 3)
                seen.append(is_seen(board, sight))
                self.assertIs(is_sight(programs, sight), True)
                self.assertIs(sees(programs, stand, sight), seen[-1])
                self.assertIs(is_plain(sight), "'not'" not in repr(sight))
        self.assertGreater(min(seen.count(True), seen.count(False)), 200)


if __name__ == "__main__":
    unittest.main()
