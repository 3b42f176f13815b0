import copy
import itertools
import random
import unittest

from helper import (A, ALWAYS, Board, NEVER, at, check_judge, counted, counts_of, entry_leads, greatly, is_seen,
                    is_under, made_entry, made_plans, made_sight, made_stand, notes_of, plain_things, plan_of, sight_of)
from noteboard.entries import below, entry_of, entry_sees, entry_steps, is_entry, under
from noteboard.moving import moved, ready
from noteboard.sights import is_plain, sees
from noteboard.stands import fault_of
from noteboard.values import ahead, in_order

# The first hand knows n behind its take; its second block wants it.
TWO = plan_of("hand; block; take ?n; go >1; block n; lay =n; hand; block")[0]
HANDS = (at(0, 1, n=5), at(0, 0))
ONE = plan_of("hand; block; take ?n")[0]
START = (at(0, 0),)


class IsEntryTest(unittest.TestCase):
    def check(self, programs, thing, told):
        kept = copy.deepcopy(thing)
        with self.subTest(thing=repr(thing)[:300]):
            self.assertIs(is_entry(programs, thing), told)
            self.assertEqual(repr(thing), repr(kept))

    def counts(self, counts, told):
        self.check(TWO, (HANDS, counts), told)
        self.check((), ((), counts), told)

    def test_entries(self):
        def judge(thing):
            return is_entry(TWO, thing)

        right = [(HANDS, ()), (HANDS, counts_of("a")), ((at(0, 0), at(0, 0)), counts_of("0 *3; 0 1 *; a *1; a 0 z *9")),
                 ((at(1, 0, n="n"), at(0, 0)), ((("job", 1), None), (("job", 2), 10 ** 58)))]
        wrong = [(), (HANDS,), (HANDS, (), ()), HANDS, ((), HANDS), (HANDS, None), ("hands", "counts"), (HANDS, HANDS),
                 ((), ()), (HANDS, "a"), (HANDS, 1), (((HANDS, ()),), ()), [HANDS, []]]
        check_judge(self, judge, right, wrong)

    def test_hands_as_in_a_right_stand(self):
        hands = [at(0, 0), at(0, 1), at(0, 1, n=5), at(0, 1, n="x"), at(0, 1, n=100), at(0, 1, n=True), at(0, 1, m=5),
                 at(0, 1, m=5, n=5), at(0, 2, n=5), at(0, 3, n=5), at(0, 0, n=5), at(1, 0), at(1, 0, n=1),
                 at(1, 1, n=1),
                 at(1, 2, n=1), at(2, 0), at(-1, 0, n=1), at(True, 0, n=1), at(0, True, n=1), at(0, False), at(None, 0),
                 [0, 0, ()], (0, 0, []), (0, 0), (0, 0, (), ()), None, 0, (), (0, 1, (["n", 5],)), (0, 1, ("n", 5))]
        right = 0
        for one, other in itertools.product(hands, hands):
            told = fault_of(TWO, ((one, other), ())) is None
            right += told
            self.check(TWO, ((one, other), ()), told)
            self.check(TWO, ((one, other), counts_of("a *2")), told)
        self.assertEqual(right, 6)

    def test_as_many_hands_as_programs(self):
        empty = plan_of("hand; block")[0]
        for many, hands in itertools.product(range(6), range(7)):
            self.check(empty * many, ((at(0, 0),) * hands, ()), many == hands)

    def test_counts_from_one_on(self):
        for many in (1, 2, 3, 60, 10 ** 9, 10 ** 9 + 1, 10 ** 30, 10 ** 60 - 1, None):
            self.counts(((("a",), many),), True)
            self.counts(((("a",), many), (("b",), many)), True)
        for many in (0, -1, -10 ** 9, True, False, "1", "", (), (1,), [], [1], "None", ((),)):
            self.counts(((("a",), many),), False)
            self.counts(((("a",), 1), (("b",), many)), False)

    def test_rows_in_order(self):
        rows = [(0,), (0, 0), (0, 1), (0, "a"), (1,), (9,), (10,), (99, 99, 99, 99), ("a",), ("a", 0), ("a", 9),
                ("a", 10), ("a", "a"), ("a", "a", 0), ("aa",), ("b",), ("b", "zzzzzzzz")]
        self.assertEqual(in_order(rows[::-1]), rows)
        self.counts(tuple([(row, 1) for row in rows]), True)
        for one, other in itertools.product(rows, rows):
            self.counts(((one, 1), (other, 1)), ahead(one, other))
            self.counts(((one, None), (other, 7)), ahead(one, other))
        for k in range(len(rows) - 1):
            swapped = rows[:k] + [rows[k + 1], rows[k]] + rows[k + 2:]
            self.counts(tuple([(row, 1) for row in swapped]), False)

    def test_rows_unlike(self):
        for counts in ("a; a", "a *1; a *2", "a *; a", "0; a 1; a 1; b", "0 *2; 0 *2"):
            self.counts(counts_of(counts), False)

    def test_counts_of_other_kinds(self):
        for counts in (None, [], [(("a",), 1)], (("a",), 1), ((("a",),),), ((("a",), 1, 1),), ([("a",), 1],),
                       (("a", 1),), ((["a"], 1),), (((), 1),), ((("A",), 1),), (((True,), 1),), (((100,), 1),),
                       ((("a",) * 5, 1),), (None,), ((),), ((None, 1),), ((1, ("a",)),), (((("a",),), 1),), "a", 1):
            self.counts(counts, False)
        for thing in plain_things():
            self.counts(thing, False)
            self.counts((thing,), False)
            self.counts(((("a",), 1), thing), False)
            self.check(TWO, (thing, ()), False)
            self.check(TWO, thing, False)

    def test_many_rows(self):
        rows = tuple([((one, other), 1) for one in range(50) for other in range(50)])
        self.counts(rows, True)
        self.counts(rows[::-1], False)
        self.counts(rows + rows[-1:], False)

    def test_without_programs(self):
        self.check((), ((), ()), True)
        self.check((), ((), counts_of("a *")), True)
        self.check((), ((at(0, 0),), ()), False)
        self.check((), [(), ()], False)
        self.check((), ([], ()), False)
        self.check((), ((), []), False)


class EntryOfTest(unittest.TestCase):
    def check(self, programs, stand, counts):
        kept = copy.deepcopy(stand)
        with self.subTest(stand=stand):
            told = entry_of(stand)
            self.assertEqual(told, (stand[0], counts))
            self.assertIs(is_entry(programs, told), True)
            self.assertIs(below(stand, told), True)
            self.assertEqual(repr(stand), repr(kept))

    def test_none(self):
        self.check((), ((), ()), ())
        self.check(TWO, (HANDS, ()), ())

    def test_counted(self):
        for notes, counts in (("a", "a *1"), ("a; a", "a *2"), ("b; a; b", "a *1; b *2"),
                              ("a 1; a; 1 a; 1; a 1", "1; 1 a; a; a 1 *2"),
                              ("z; 10; 9; a; 9 0; a 0", "9; 9 0; 10; a; a 0; z")):
            self.check((), ((), notes_of(notes)), counts_of(counts))
            self.check(TWO, (HANDS, notes_of(notes)), counts_of(counts))

    def test_like_notes_of_unlike_ages(self):
        self.check((), ((), notes_of("a @1; b; a; a @20; a @1; b @2")), counts_of("a *4; b *2"))
        self.check((), ((), notes_of("a @3")), counts_of("a"))

    def test_the_order_of_the_notes_is_nothing(self):
        for notes in itertools.permutations(notes_of("1; a; a @3; a b; 1")):
            self.check((), ((), notes), counts_of("1 *2; a *2; a b"))

    def test_many(self):
        self.check((), ((), notes_of("a; b @1; a @2") * 100), counts_of("a *200; b *100"))

    def test_of_many_stands(self):
        source = random.Random(301)
        for programs, notes in made_plans(301, 200):
            stand = made_stand(source, programs, 20)
            rows = [row for row, age in stand[1]]
            self.check(programs, stand, counted({row: rows.count(row) for row in rows}))


class BelowTest(unittest.TestCase):
    def check(self, notes, counts, told, hands=((), ())):
        stand, entry = (hands[0], notes_of(notes)), (hands[1], counts_of(counts))
        kept = copy.deepcopy((stand, entry))
        with self.subTest(notes=notes, counts=counts, hands=hands):
            self.assertIs(below(stand, entry), told)
            self.assertEqual(repr((stand, entry)), repr(kept))

    def test_counts(self):
        for notes, counts in (("", ""), ("", "a"), ("", "a *"), ("a", "a"), ("a", "a *2"), ("a", "a *"),
                              ("a; a", "a *2"),
                              ("a; a; a", "a *"), ("a; b", "a; b"), ("b; a; b", "a *9; b *2"), ("b", "a; b *; c *"),
                              ("; ".join(["a"] * 60), "a *60"), ("; ".join(["a"] * 60), "a *"), ("a", "a *1000000000")):
            self.check(notes, counts, True)
        for notes, counts in (("a", ""), ("a", "b *"), ("a; a", "a"), ("a; b", "a *"), ("b; a; b", "a; b"),
                              ("a 1", "a *"),
                              ("a", "a 1 *"), ("; ".join(["a"] * 60), "a *59"), ("1", "a; 2"), ("a; b; c", "a *; b *")):
            self.check(notes, counts, False)

    def test_of_whatever_age(self):
        self.check("a @1; a; a @20", "a *3", True)
        self.check("a @1; a; a @20", "a *2", False)
        self.check("a @1", "a", True)
        self.check("a @1; a @2", "a", False)

    def test_hands(self):
        for one, other in itertools.product((at(0, 0), at(0, 1, n=1), at(0, 1, n=2), at(0, 1, n="a"), at(1, 0, n=1),
                                             at(0, 2, n=1)), repeat=2):
            self.check("a", "a *", one == other, ((one, at(0, 0)), (other, at(0, 0))))
            self.check("", "", one == other, ((at(0, 0), one), (at(0, 0), other)))
            self.check("a", "", False, ((one,), (other,)))

    def test_of_many(self):
        source = random.Random(311)
        seen = []
        for programs, notes in made_plans(311, 400):
            stand = made_stand(source, programs, 3)
            entry = made_entry(source, programs)
            rows = [row for row, age in stand[1]]
            most = greatly(entry)
            for hands in (stand[0], entry[0]):
                seen.append(stand[0] == hands and all([rows.count(row) <= most.get(row, 0) for row in rows]))
                self.assertIs(below(stand, (hands, entry[1])), seen[-1])
            self.assertIs(below(stand, entry), under(entry_of(stand), entry))
        self.assertGreater(min(seen.count(True), seen.count(False)), 100)


class UnderTest(unittest.TestCase):
    def check(self, one, other, told):
        kept = copy.deepcopy((one, other))
        with self.subTest(one=one, other=other):
            self.assertIs(under(one, other), told)
            self.assertEqual(repr((one, other)), repr(kept))

    def test_counts(self):
        told = ["", "a", "a *2", "a *1000000000", "a *", "a; b", "a *; b *2", "a *2; b *", "a *; b *", "b"]
        numbers = [{}, {"a": 1}, {"a": 2}, {"a": 10 ** 9}, {"a": 10 ** 60}, {"a": 1, "b": 1}, {"a": 10 ** 60, "b": 2},
                   {"a": 2, "b": 10 ** 60}, {"a": 10 ** 60, "b": 10 ** 60}, {"b": 1}]
        for (one, few), (other, many) in itertools.product(zip(told, numbers), repeat=2):
            right = all([few.get(name, 0) <= many.get(name, 0) for name in "ab"])
            self.check((HANDS, counts_of(one)), (HANDS, counts_of(other)), right)

    def test_none_is_more_than_all_numbers(self):
        self.check(((), ((("a",), 10 ** 60 - 1),)), ((), ((("a",), None),)), True)
        self.check(((), ((("a",), None),)), ((), ((("a",), 10 ** 60 - 1),)), False)
        self.check(((), ((("a",), None),)), ((), ()), False)
        self.check(((), ((("a",), None),)), ((), ((("a",), None),)), True)

    def test_hands(self):
        counts = counts_of("a *; b *2")
        for other in ((at(0, 1, n=6), at(0, 0)), (at(0, 2, n=5), at(0, 0)), (at(1, 0, n=5), at(0, 0)),
                      (at(0, 0), at(0, 0)), (at(0, 1, n="n"), at(0, 0))):
            self.check((HANDS, counts), (other, counts), False)
            self.check((HANDS, ()), (other, counts), False)
            self.check((other, ()), (HANDS, counts), False)
            self.check((other, ()), (other, counts), True)

    def test_each_is_under_itself(self):
        source = random.Random(321)
        for programs, notes in made_plans(321, 200):
            entry = made_entry(source, programs)
            self.check(entry, copy.deepcopy(entry), True)

    def test_of_many(self):
        source = random.Random(322)
        seen = []
        for programs, notes in made_plans(322, 600, (0, 1)):
            one, other = made_entry(source, programs), made_entry(source, programs)
            for hands in (one[0], other[0]):
                few = (hands, one[1][:source.randint(0, 2)])
                seen.append(is_under(few, other))
                self.check(few, other, seen[-1])
        self.assertGreater(min(seen.count(True), seen.count(False)), 100)


class StepsTest(unittest.TestCase):
    def check(self, programs, entry, steps):
        kept = copy.deepcopy((programs, entry))
        with self.subTest(entry=entry):
            self.assertIs(is_entry(programs, entry), True)
            told = entry_steps(programs, entry)
            self.assertIs(told.__class__, list)
            self.assertEqual(told, steps)
            for step in told:
                self.assertIs(is_entry(programs, step), True)
            told.append(None)
            told.reverse()
            self.assertEqual(entry_steps(programs, entry), steps)
            self.assertEqual(repr((programs, entry)), repr(kept))

    def hand(self, act, before, counts, *steps):
        """One hand at its act, behind one that binds n; each step is (hand, counts)."""
        programs = plan_of(f"hand; block; read ?n; {act}; block; block n; block; lay zz")[0]
        self.check(programs, ((before,), counts_of(counts)), [((hand,), counts_of(rows)) for hand, rows in steps])

    def test_none(self):
        self.check((), ((), ()), [])
        self.check((), ((), counts_of("a *; b *2")), [])
        self.check(TWO, ((at(0, 0), at(0, 0)), ()), [])

    def test_ended_hands(self):
        self.check(TWO, ((at(1, 1, n=5), at(0, 0)), counts_of("a *; b")), [])
        self.check(TWO, ((at(1, 0, n=5), at(0, 0)), counts_of("a *")),
                   [((at(1, 1, n=5), at(0, 0)), counts_of("5; a *"))])

    def test_lay(self):
        here, behind = at(0, 1, n=5), at(0, 2, n=5)
        for act, before, counts in (("lay a", "", "a"), ("lay a", "a", "a *2"), ("lay a", "a *9", "a *10"),
                                    ("lay a", "a *", "a *"), ("lay a", "b *", "a; b *"),
                                    ("lay a", "0; b; c", "0; a; b; c"),
                                    ("lay z =n", "z 4; z 6", "z 4; z 5; z 6"), ("lay +n", "5", "5; 6"),
                                    ("lay +n =n", "6 5 *", "6 5 *"), ("lay a @1", "a", "a *2"), ("lay a @20", "", "a"),
                                    ("lay a", "a *1000000000", "a *1000000001"), ("lay a 1", "a", "a; a 1")):
            self.hand(act, here, before, (behind, counts))

    def test_take(self):
        here, behind = at(0, 1, n=5), at(0, 2, n=5)
        for act, before, counts in (("take a", "a", ""), ("take a", "a *2", "a"), ("take a", "a *", "a *"),
                                    ("take a", "0; a; b", "0; b"), ("take a", "a *1000000000", "a *999999999"),
                                    ("take a =n", "a *3; a 5 *3", "a *3; a 5 *2"),
                                    ("take a =n", "a 4; a 5; a 6", "a 4; a 6")):
            self.hand(act, here, before, (behind, counts))
        for act, before in (("take a", ""), ("take a", "a 0; b *"), ("take =n", "4; 6; a"),
                            ("take # #", "1; 1 a; a 1")):
            self.hand(act, here, before)

    def test_take_of_several_rows_in_their_order(self):
        self.hand("take ?", at(0, 1, n=5), "a *2; b; c *; d d *", (at(0, 2, n=5), "a; b; c *; d d *"),
                  (at(0, 2, n=5), "a *2; c *; d d *"), (at(0, 2, n=5), "a *2; b; c *; d d *"))
        self.hand("take ?m", at(0, 1, n=5), "2; 10; a; b *; z *9", (at(0, 2, m=2, n=5), "10; a; b *; z *9"),
                  (at(0, 2, m=10, n=5), "2; a; b *; z *9"), (at(0, 2, m="a", n=5), "2; 10; b *; z *9"),
                  (at(0, 2, m="b", n=5), "2; 10; a; b *; z *9"), (at(0, 2, m="z", n=5), "2; 10; a; b *; z *8"))
        self.hand("take =n ?n", at(0, 1, n=5), "5 5; 5 9 *; 6 1; a", (at(0, 2, n=5), "5 9 *; 6 1; a"),
                  (at(0, 2, n=9), "5 5; 5 9 *; 6 1; a"))
        self.hand("take ?m ?m", at(0, 1, n=5), "1 1 *2; 1 2; a a; a b", (at(0, 2, m=1, n=5), "1 1; 1 2; a a; a b"),
                  (at(0, 2, m="a", n=5), "1 1 *2; 1 2; a b"))

    def test_read(self):
        here = at(0, 1, n=5)
        self.hand("read a", here, "a; b", (at(0, 2, n=5), "a; b"))
        self.hand("read a", here, "a *; b", (at(0, 2, n=5), "a *; b"))
        self.hand("read a", here, "b; c *")
        self.hand("read a", here, "")
        self.hand("read ?n", here, "1 *2; a *; b; b b", (at(0, 2, n=1), "1 *2; a *; b; b b"),
                  (at(0, 2, n="a"), "1 *2; a *; b; b b"), (at(0, 2, n="b"), "1 *2; a *; b; b b"))

    def test_look(self):
        here = at(0, 1, n=5)
        self.hand("look a >1", here, "", (at(1, 0), ""))
        self.hand("look a >2", here, "a a; b *", (at(2, 0, n=5), "a a; b *"))
        self.hand("look a >1", here, "a *3", (at(0, 2, n=5), "a *3"), (at(1, 0), "a *3"))
        self.hand("look a >1", here, "a *", (at(0, 2, n=5), "a *"), (at(1, 0), "a *"))
        self.hand("look ?n >2", here, "1; 2 *; a", (at(0, 2, n=1), "1; 2 *; a"), (at(0, 2, n=2), "1; 2 *; a"),
                  (at(0, 2, n="a"), "1; 2 *; a"), (at(2, 0, n=5), "1; 2 *; a"))
        self.hand("look ?m >2", here, "1", (at(0, 2, m=1, n=5), "1"), (at(2, 0, n=5), "1"))
        self.hand("look =n >3", here, "4; 6", (at(3, 0), "4; 6"))

    def test_same_and_go(self):
        for counts in ("", "a *; b *2"):
            for act in ("same =n 5 >1", "same 5 =n >1", "same =n =n >1", "same a a >1"):
                self.hand(act, at(0, 1, n=5), counts, (at(0, 2, n=5), counts))
            for act in ("same =n 6 >1", "same 1 2 >1", "same a =n >1", "same a b >1"):
                self.hand(act, at(0, 1, n=5), counts, (at(1, 0), counts))
            self.hand("same =n 6 >2", at(0, 1, n=5), counts, (at(2, 0, n=5), counts))
            self.hand("go >1", at(0, 1, n=5), counts, (at(1, 0), counts))
            self.hand("go >2", at(0, 1, n=5), counts, (at(2, 0, n=5), counts))
            self.hand("go >0", at(0, 1, n=5), counts, (at(0, 0), counts))

    def test_hand_by_hand(self):
        programs = plan_of("hand; block; lay b; hand; block; take ?; hand; block; take z; "
                           "hand; block; go >0; hand; block; look a >0")[0]
        start, behind = at(0, 0), at(0, 1)
        counts = counts_of("a; b *2")
        self.check(programs, ((start,) * 5, counts), [
            ((behind, start, start, start, start), counts_of("a; b *3")),
            ((start, behind, start, start, start), counts_of("b *2")),
            ((start, behind, start, start, start), counts_of("a; b")),
            ((start, start, start, start, start), counts),
            ((start, start, start, start, behind), counts)])

    def test_like_steps_once_at_their_first_place(self):
        here = at(0, 1, n=5)
        self.hand("take ?", here, "a *; b *; c *", (at(0, 2, n=5), "a *; b *; c *"))
        self.hand("read ?", here, "a; b; c", (at(0, 2, n=5), "a; b; c"))
        self.hand("take ?", here, "a *; b; c *", (at(0, 2, n=5), "a *; b; c *"), (at(0, 2, n=5), "a *; c *"))
        self.hand("read ?n ?", here, "1 1; 1 2; 2 1; 2 2", (at(0, 2, n=1), "1 1; 1 2; 2 1; 2 2"),
                  (at(0, 2, n=2), "1 1; 1 2; 2 1; 2 2"))
        self.hand("take ? ?n", here, "1 1 *; 1 2 *; 2 1; 2 2 *", (at(0, 2, n=1), "1 1 *; 1 2 *; 2 1; 2 2 *"),
                  (at(0, 2, n=2), "1 1 *; 1 2 *; 2 1; 2 2 *"), (at(0, 2, n=1), "1 1 *; 1 2 *; 2 2 *"))
        programs = plan_of("hand; block; go >0; hand; block; go >0; hand; block; look ? >0; go >0")[0]
        hands = (at(0, 0),) * 3
        self.check(programs, (hands, ()), [(hands, ())])
        self.check(programs, (hands, counts_of("a; b")),
                   [(hands, counts_of("a; b")), ((at(0, 0), at(0, 0), at(0, 1)), counts_of("a; b"))])

    def test_no_step_of_the_clock(self):
        programs = plan_of("hand; block; take a; hand; block")[0]
        self.check(programs, entry_of(((at(0, 0), at(0, 0)), notes_of("b @1; c @20"))), [])

    def test_any_row_that_fits_not_the_first_that_lies(self):
        programs = ONE
        stand = (START, notes_of("b; a"))
        self.check(programs, entry_of(stand),
                   [((at(0, 1, n="a"),), counts_of("b")), ((at(0, 1, n="b"),), counts_of("a"))])
        self.assertEqual(moved(programs, stand, 0)[0], (at(0, 1, n="b"),))

    def test_acts_that_are_never_come_to(self):
        programs = plan_of("hand; block; go >0; take ?n; lay =n")[0]
        self.check(programs, ((at(0, 1),), counts_of("a *")), [((at(0, 2, n="a"),), counts_of("a *"))])
        self.check(programs, ((at(0, 2, n=7),), counts_of("a *")), [((at(0, 3, n=7),), counts_of("7; a *"))])

    def test_great_counts(self):
        many = 10 ** 59
        programs = plan_of("hand; block; take a; hand; block; lay a")[0]
        hands = (at(0, 0), at(0, 0))
        self.check(programs, (hands, ((("a",), many),)), [((at(0, 1), at(0, 0)), ((("a",), many - 1),)),
                                                         ((at(0, 0), at(0, 1)), ((("a",), many + 1),))])

    def test_as_told_once_more(self):
        source = random.Random(331)
        many = 0
        for programs, notes in made_plans(331, 1500, (1, 1, 2, 3, 5)):
            entry = made_entry(source, programs)
            steps = entry_leads(programs, entry)
            many += len(steps) > 2
            self.check(programs, entry, steps)
        self.assertGreater(many, 100)

    def test_what_a_mover_makes_is_below_a_step(self):
        """Of a stand below an entry: a hand's below a step of it, the clock's below itself."""
        source = random.Random(332)
        many = 0
        for programs, notes in made_plans(332, 500):
            stand = made_stand(source, programs)
            having = greatly(entry_of(stand))
            for row, count in made_entry(source, programs)[1]:
                having[row] = None if count is None else having.get(row, 0) + count
            for entry in (entry_of(stand), (stand[0], counted(having))):
                self.assertIs(below(stand, entry), True)
                steps = entry_steps(programs, entry)
                for hand in ready(programs, stand):
                    behind = moved(programs, stand, hand)
                    self.assertTrue(any([below(behind, step) for step in steps]))
                    many += 1
                self.assertIs(below(moved(programs, stand, len(programs)), entry), True)
        self.assertGreater(many, 500)


class SeesTest(unittest.TestCase):
    def check(self, programs, entry, sight, told):
        kept = copy.deepcopy((programs, entry, sight))
        with self.subTest(entry=entry, sight=sight):
            self.assertIs(entry_sees(programs, entry, sight), told)
            self.assertEqual(repr((programs, entry, sight)), repr(kept))

    def notes(self, counts, pattern, fitting):
        for many in range(1, 10):
            self.check((), ((), counts_of(counts)), sight_of(pattern, many), fitting >= many)

    def test_notes(self):
        self.notes("", "?", 0)
        self.notes("a", "?", 1)
        self.notes("a *3", "a", 3)
        self.notes("a *3", "b", 0)
        self.notes("a *8", "?", 8)
        self.notes("a *9", "$", 9)
        self.notes("a *1000000000", "a", 10 ** 9)

    def test_the_counts_of_several_rows_taken_together(self):
        self.notes("1 *2; a *3; b; a a *9", "?", 6)
        self.notes("1 *2; a *3; b; a a *9", "$", 4)
        self.notes("1 *2; a *3; b; a a *9", "#", 2)
        self.notes("1; 2; 3; 4; 5", "#", 5)
        self.notes("a 1; a 2 *2; b 1 *4", "a ?", 3)
        self.notes("a 1; a 2 *2; b 1 *4", "? 1", 5)

    def test_any_many(self):
        self.notes("a *", "a", 9)
        self.notes("a *", "?", 9)
        self.notes("a *; b *2", "b", 2)
        self.notes("a *; b *2", "$", 9)
        self.notes("a *; b *2", "#", 0)
        self.notes("a *; b *", "? ?", 0)

    def test_a_bind_told_twice(self):
        self.notes("1 1 *2; 1 2 *3; a a; a b *", "?n ?n", 3)
        self.notes("1 1 *2; 1 2 *3; a a; a b", "?m ?n", 7)
        self.notes("a b a b *; a b b a", "?m ?n ?m ?n", 9)

    def test_with_no_names(self):
        entry = ((at(0, 1, n=5), at(0, 0)), counts_of("6"))
        self.check(TWO, entry, sight_of("?n"), True)
        self.check(TWO, entry, sight_of("?n", 2), False)

    def test_at_and_ended(self):
        for number, place, names in ((0, 0, {}), (0, 1, {"n": 1}), (0, 2, {"n": 0}), (1, 0, {"n": 0}),
                                     (1, 1, {"n": 1})):
            for counts in ("", "a *"):
                entry = ((at(number, place, **names), at(0, 0)), counts_of(counts))
                for other, there in ((0, 0), (0, 1), (0, 2), (1, 0), (1, 1)):
                    self.check(TWO, entry, ("at", 0, other, there), (number, place) == (other, there))
                self.check(TWO, entry, ("ended", 0), (number, place) in ((0, 2), (1, 1)))
                self.check(TWO, entry, ("at", 1, 0, 0), True)
                self.check(TWO, entry, ("ended", 1), True)

    def test_all_and_some(self):
        entry = (HANDS, counts_of("a *; b"))
        true, false = A, sight_of("b", 2)
        self.check(TWO, entry, ALWAYS, True)
        self.check(TWO, entry, NEVER, False)
        for rows in ((true,), (true, true), (true, ALWAYS, ("ended", 1))):
            self.check(TWO, entry, ("all", rows), True)
            self.check(TWO, entry, ("some", rows), True)
            self.check(TWO, entry, ("all", rows + (false,)), False)
            self.check(TWO, entry, ("all", (false,) + rows), False)
            self.check(TWO, entry, ("some", (false,) + rows), True)
            self.check(TWO, entry, ("some", rows + (false,)), True)
        self.check(TWO, entry, ("some", (false, NEVER, ("at", 0, 0, 0))), False)
        for place, told in ((1, True), (0, False)):
            inner = ("some", (false, ("all", (true, ("at", 0, 0, place)))))
            self.check(TWO, entry, ("all", (inner, ("some", (true, NEVER)))), told)

    def test_an_entry_of_a_stand_sees_as_it_does(self):
        source = random.Random(341)
        seen = []
        for programs, notes in made_plans(341, 300):
            stand = made_stand(source, programs)
            for _ in range(4):
                sight = made_sight(source, programs, 3)
                if is_plain(sight):
                    seen.append(is_seen(Board(programs, stand), sight))
                    self.check(programs, entry_of(stand), sight, seen[-1])
        self.assertGreater(min(seen.count(True), seen.count(False)), 100)

    def test_a_stand_that_sees_is_below_none_that_does_not(self):
        source = random.Random(342)
        seen = 0
        for programs, notes in made_plans(342, 400):
            stand = made_stand(source, programs)
            entry = (stand[0], counted({**greatly(entry_of(stand)), **{row: None for row, age in stand[1][:2]}}))
            self.assertIs(below(stand, entry), True)
            sight = made_sight(source, programs, 3)
            if is_plain(sight) and sees(programs, stand, sight):
                self.check(programs, entry, sight, True)
                seen += 1
        self.assertGreater(seen, 50)

    def test_as_if_so_many_lay(self):
        """Ten of a row are any many for each sight: an entry sees what a stand with so many would."""
        source = random.Random(343)
        seen = []
        for programs, notes in made_plans(343, 300):
            entry = made_entry(source, programs)
            lying = tuple([(row, None) for row, many in entry[1] for _ in range(min(many or 10, 10))])
            sight = made_sight(source, programs, 3)
            if is_plain(sight):
                seen.append(is_seen(Board(programs, (entry[0], lying)), sight))
                self.check(programs, entry, sight, seen[-1])
        self.assertGreater(min(seen.count(True), seen.count(False)), 40)


if __name__ == "__main__":
    unittest.main()
