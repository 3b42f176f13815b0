import copy
import itertools
import unittest

from helper import NOTES, PLANS, PROGRAMS, block, plain_things, program, spoiled
from noteboard.plantexts import read_plan
from noteboard.programs import known_at
from noteboard.stands import fault_of, first_stand, is_names

# Names known in the first block: none, then n, then m and n; in the second, which wants n: n, then a and n.
LINES = ["hand", "block", "take ?n", "read ?m", "go >1", "block n", "look ?a =n >0", "lay =a"]
TWO_BLOCKS = read_plan(LINES)[0][0]
EMPTY = program(block(""))
THREE = (TWO_BLOCKS, EMPTY, PROGRAMS[2])
N = ("n", 5)
STAND = (((0, 1, (N,)), (0, 0, ()), (2, 1, ())), ((("job", 1), None), ((0,), 20)))


class FaultTest(unittest.TestCase):
    def check(self, programs, thing, told):
        with self.subTest(thing=repr(thing)[:300]):
            self.assertEqual(fault_of(programs, thing), told)

    def hand(self, hand, told):
        """The one hand of TWO_BLOCKS, by itself and among others."""
        self.check((TWO_BLOCKS,), ((hand,), ()), told)
        self.check((EMPTY, TWO_BLOCKS), (((0, 0, ()), hand), tuple(NOTES)), told)
        self.check((TWO_BLOCKS, EMPTY), ((hand, (0, 0, ())), tuple(NOTES)), told)


class StandTest(FaultTest):
    def test_stands(self):
        self.check(THREE, STAND, None)
        self.check((), ((), ()), None)
        self.check((), ((), tuple(NOTES)), None)
        self.check((EMPTY,), (((0, 0, ()),), ()), None)

    def test_each_place_of_each_block(self):
        for blocks in PROGRAMS + [TWO_BLOCKS]:
            for number, (wanted, acts) in enumerate(blocks):
                for place in range(len(acts) + 1):
                    names = tuple([(name, 7) for name in known_at(blocks, number, place)])
                    self.check((blocks,), (((number, place, names),), ()), None)

    def test_values_of_names(self):
        for value in (0, 1, 99, "a", "n", "abcdefgh"):
            self.hand((0, 1, (("n", value),)), None)
            self.hand((0, 2, (("m", value), ("n", 3))), None)
            self.hand((1, 0, (("n", value),)), None)

    def test_many_notes(self):
        for many in (0, 1, 12, 13, 60, 61, 500):
            self.check((EMPTY,), (((0, 0, ()),), (NOTES[1],) * many), None)

    def test_told_are_the_words(self):
        self.assertIs(fault_of((), ((), ())), None)
        for thing in (None, ((), ((),)), (((0, 0, ()),), ())):
            self.assertIs(fault_of((), thing).__class__, str)


class FormTest(FaultTest):
    def test_no_tuple_of_two_tuples(self):
        for thing in plain_things() + [(), ((),), ((), (), ()), [(), ()], ([], ()), ((), []), (None, ()), ((), None),
                                       ("", ()), ((), ""), (0, 0), "ab", [[], []]]:
            for programs in ((), (EMPTY,), THREE):
                self.check(programs, thing, "form")

    def test_first_one_of_tuples_of_three(self):
        for bad in ((), (0,), (0, 0), (0, 0, (), ()), [0, 0, ()], None, 0, "abc", True, (0, 0, 0, 0)):
            self.check((EMPTY,), ((bad,), ()), "form")
            self.check((EMPTY, EMPTY), (((0, 0, ()), bad), ()), "form")
            self.check((EMPTY, EMPTY), ((bad, (0, 0, ())), ()), "form")
            self.check((), ((bad,), ()), "form")

    def test_lists_for_tuples(self):
        hands, notes = STAND
        self.check(THREE, [hands, notes], "form")
        self.check(THREE, (list(hands), notes), "form")
        self.check(THREE, (hands, list(notes)), "form")
        self.check(THREE, ((list(hands[0]),) + hands[1:], notes), "form")
        self.check(THREE, (hands[:2] + (list(hands[2]),), notes), "form")
        self.check(THREE, (hands, notes, ()), "form")


class HandsTest(FaultTest):
    def test_how_many(self):
        for many in range(6):
            for hands in range(8):
                stand = (((0, 0, ()),) * hands, ())
                self.check((EMPTY,) * many, stand, None if hands == many else "hands")

    def test_ahead_of_what_they_are(self):
        self.check((), (((None, None, None),), ()), "hands")
        self.check((EMPTY,), ((), (None,)), "hands")
        self.check((EMPTY,), (((9, 9, 9), (0, 0, ())), ()), "hands")


class PlaceTest(FaultTest):
    def test_block(self):
        for number in (2, 3, 6, 99, 10 ** 59, -1, -2, -3, True, False, None, "0", "", (), (0,), [], [0], ((), ())):
            self.hand((number, 0, ()), "place")
            self.hand((number, 0, (N,)), "place")

    def test_place(self):
        for place in (4, 5, 8, 9, 99, 10 ** 59, -1, -2, -4, True, False, None, "0", "", (), (0,), [], [1]):
            for names in ((), (N,), (("m", 1), N)):
                self.hand((0, place, names), "place")
        self.hand((0, 3, (("m", 1), N)), None)
        self.hand((1, 2, (("a", 1), N)), None)
        self.hand((1, 3, (("a", 1), N)), "place")

    def test_of_its_own_program(self):
        self.check((EMPTY, TWO_BLOCKS), (((0, 0, ()), (1, 0, (N,))), ()), None)
        self.check((TWO_BLOCKS, EMPTY), (((0, 0, ()), (1, 0, (N,))), ()), "place")
        self.check((TWO_BLOCKS, EMPTY), (((0, 0, ()), (0, 1, (N,))), ()), "place")

    def test_truths_are_no_numbers(self):
        self.check(THREE, (((0, True, (N,)),) + STAND[0][1:], STAND[1]), "place")
        self.check(THREE, ((STAND[0][0], (False, 0, ()), STAND[0][2]), STAND[1]), "place")
        self.check(THREE, ((STAND[0][0], (0, False, ()), STAND[0][2]), STAND[1]), "place")
        self.hand((True, 0, (N,)), "place")


class NamesTest(FaultTest):
    def test_just_those_known_there(self):
        rights = {(0, 0): "", (0, 1): "n", (0, 2): "m n", (0, 3): "m n", (1, 0): "n", (1, 1): "a n", (1, 2): "a n"}
        chosen = ["", "a", "b", "m", "n", "a m", "a n", "m n", "n o", "a m n", "m n o", "a m n o"]
        for (number, place), right in rights.items():
            for names in chosen:
                told = None if names == right else "names"
                self.hand((number, place, tuple([(name, 1) for name in names.split()])), told)

    def test_turned_about_and_twice(self):
        self.hand((0, 2, (("m", 1), ("n", 2))), None)
        self.hand((0, 2, (("n", 2), ("m", 1))), "names")
        self.hand((0, 2, (("m", 1), ("m", 1), ("n", 2))), "names")
        self.hand((0, 2, (("m", 1), ("n", 2), ("n", 2))), "names")
        self.hand((0, 1, (N, N)), "names")

    def test_no_names(self):
        for bad in (None, 0, True, "", "n", [], ("n",), N, ("n", "n"), [N], (["n", 5],), (("n",),), (("n", 5, 5),),
                    ((),),
                    (None,), ((5, "n"),), (("n", True),), (("n", False),), (("n", None),), (("n", 100),), (("n", -1),),
                    (("n", "abcdefghi"),), (("n", ""),), (("n", "A"),), (("n", (5,)),), (("n", [5]),), (("N", 5),),
                    (("", 5),), (("abcde", 5),), ((("n",), 5),), ((True, 5),), (("n", 5), None),
                    (("n", 5), (5, "n")), ((5, "n"), ("n", 5)), (("n", 5), (None, 5)), ((("n",), 5), ("n", 5))):
            self.hand((0, 1, bad), "names")
            self.hand((1, 0, bad), "names")
        for bad in (None, 0, False, "", [], [()], ((),), (None,), (("", 0),)):
            self.hand((0, 0, bad), "names")

    def test_each_hand_is_looked_at(self):
        for k in range(5):
            hands = [(0, 1, (N,))] * 5
            self.check((TWO_BLOCKS,) * 5, (tuple(hands), ()), None)
            hands[k] = (0, 1, ())
            self.check((TWO_BLOCKS,) * 5, (tuple(hands), ()), "names")
            hands[k] = (2, 0, ())
            self.check((TWO_BLOCKS,) * 5, (tuple(hands), ()), "place")


class IsNamesTest(unittest.TestCase):
    def test_names(self):
        right = [(), (N,), (("a", 0), ("aa", "a"), ("b", 99)), tuple([(name, name) for name in "abcdefgh"])]
        wrong = [(N, N), (("b", 1), ("a", 1)), (("a", 1), ("c", 1), ("b", 1)), (("a", 1), ("a", 2)), N, (N, None)]
        for thing in right:
            self.assertIs(is_names(thing), True)
            for other in spoiled(thing):
                self.assertIs(is_names(other), False)
        for thing in wrong:
            self.assertIs(is_names(thing), False)


class NotesTest(FaultTest):
    def test_each_is_looked_at(self):
        for bad in (None, 0, True, "", "a", (), ("a",), ("a", 1), (("a",),), (("a",), 0), (("a",), 21), (("a",), True),
                    (("a",), "1"), (("a",), None, None), ((), None), (["a"], None), [("a",), None], ((100,), None),
                    ((True,), None), (("A",), None), (("a",) * 5, None), ((("a",),), None), [], (None, ("a",))):
            for k in range(3):
                notes = (NOTES[0],) * k + (bad,) + (NOTES[1],) * (2 - k)
                self.check((), ((), notes), "notes")
                self.check(THREE, (STAND[0], notes), "notes")


class OrderTest(FaultTest):
    def test_the_word_that_is_asked_first(self):
        """Each choice of faults, each at another thing of the stand: told is the first word of them."""
        words = ("form", "hands", "place", "names", "notes")
        for chosen in itertools.product((False, True), repeat=5):
            faults = [word for word, is_so in zip(words, chosen) if is_so]
            hands = list(STAND[0])
            notes = list(STAND[1])
            if "notes" in faults:
                notes[0] = (("job", True), None)
            if "names" in faults:
                hands[0] = (0, 1, (("m", 5),))
            if "place" in faults:
                hands[2] = (2, 9, None)
            if "hands" in faults:
                hands.append((0, 0, ()))
            if "form" in faults:
                hands[1] = [0, 0, ()]
            self.check(THREE, (tuple(hands), tuple(notes)), faults[0] if faults else None)

    def test_a_later_hand_goes_ahead_by_its_word(self):
        self.check((TWO_BLOCKS, EMPTY), (((0, 1, ()), (0, 0, ())), ()), "names")
        self.check((TWO_BLOCKS, EMPTY), (((0, 1, ()), (0, 1, ())), ()), "place")
        self.check((TWO_BLOCKS, EMPTY), (((0, 1, ()), (0, 1)), ()), "form")
        self.check((TWO_BLOCKS, EMPTY), (((0, 9, ()), (0, 0, (N,))), (None,)), "place")

    def test_the_second_one_is_no_tuple(self):
        self.check((EMPTY,), (((9, 9, 9),), [None]), "form")

    def test_whatever_is_spoiled_is_no_stand(self):
        for other in spoiled(STAND):
            with self.subTest(thing=other):
                self.assertIn(fault_of(THREE, other), ("form", "hands", "place", "names", "notes"))

    def test_things_of_every_kind(self):
        things = plain_things() + [STAND, list(STAND), (list(STAND[0]), STAND[1]), [[], []]]
        before = copy.deepcopy(things)
        for thing in things:
            fault_of(THREE, thing)
            fault_of(THREE, ((thing, thing, thing), (thing,)))
            fault_of(THREE, (((thing, 0, ()), (0, thing, ()), (0, 0, thing)), (thing,)))
            fault_of(THREE, (((0, 1, (thing,)), (0, 0, ()), (0, 0, ())), (thing,)))
            fault_of(THREE, (((0, 1, (("n", thing),)), (0, 0, ()), (0, 0, ())), ((thing, thing),)))
        self.assertEqual(things, before)


class FirstStandTest(unittest.TestCase):
    def check(self, plan, stand):
        with self.subTest(plan=plan):
            told = first_stand(plan)
            self.assertEqual(told, stand)
            self.assertIsNone(fault_of(plan[0], told))

    def test_first_stands(self):
        self.check(((), ()), ((), ()))
        self.check(((EMPTY,), ()), (((0, 0, ()),), ()))
        self.check(((), tuple(NOTES)), ((), tuple(NOTES)))
        self.check((THREE, tuple(NOTES)), (((0, 0, ()), (0, 0, ()), (0, 0, ())), tuple(NOTES)))
        self.check((tuple(PROGRAMS), tuple(NOTES) * 3), (((0, 0, ()),) * 5, tuple(NOTES) * 3))

    def test_notes_in_their_order(self):
        notes = ((("b",), None), ((1,), 3), (("a",), 20), ((1,), 3), ((0,), None))
        for turned in itertools.permutations(notes):
            self.check(((EMPTY,), turned), (((0, 0, ()),), turned))

    def test_of_each_plan_without_fault(self):
        for plan in PLANS:
            before = copy.deepcopy(plan)
            self.check(plan, (((0, 0, ()),) * len(plan[0]), plan[1]))
            self.assertEqual(plan, before)

    def test_of_a_plan_that_was_read(self):
        plan = read_plan(["note job 1 @3", "note a"] + LINES + ["hand", "block"])
        self.check(plan, (((0, 0, ()), (0, 0, ())), ((("job", 1), 3), (("a",), None))))

    def test_kinds(self):
        hands, notes = first_stand((THREE, tuple(NOTES)))
        self.assertIs(hands.__class__, tuple)
        self.assertIs(notes.__class__, tuple)
        for number, place, names in hands:
            self.assertIs(number.__class__, int)
            self.assertIs(place.__class__, int)
            self.assertIs(names.__class__, tuple)


if __name__ == "__main__":
    unittest.main()
