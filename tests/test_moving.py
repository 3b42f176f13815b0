import copy
import random
import unittest

from helper import PROGRAMS, Board, at, made_plans, made_stand, notes_of, plain_things, plan_of
from noteboard.errors import BoardError, NoLine, NoRow, NotReady, TooMany
from noteboard.moving import gets, moved, ready
from noteboard.stands import fault_of, first_stand


def programs_of(text):
    return plan_of(text)[0]


def made_stands(seed, many):
    """Programs, each with a stand of them, perhaps one to which no weaving leads."""
    source = random.Random(seed)
    for programs, notes in made_plans(seed, many):
        yield programs, first_stand((programs, notes))
        for _ in range(3):
            yield programs, made_stand(source, programs)


class ReadyTest(unittest.TestCase):
    def check(self, text, hands, notes, told):
        """Which hands are ready, told twice; what is told is changed in between."""
        programs = programs_of(text)
        stand = (tuple(hands), notes_of(notes))
        self.assertIsNone(fault_of(programs, stand))
        with self.subTest(text=text, stand=stand):
            first = ready(programs, stand)
            self.assertIs(first.__class__, list)
            self.assertEqual(first, told)
            self.assertTrue(all([hand.__class__ is int for hand in first]))
            first.append(9)
            first.reverse()
            self.assertEqual(ready(programs, stand), told)

    def test_no_hands(self):
        self.check("", [], "", [])
        self.check("", [], "a; b 1 @1", [])

    def test_ended(self):
        self.check("hand; block", [at(0, 0)], "a", [])
        self.check("hand; block; lay a; lay b", [at(0, 2)], "a", [])
        self.check("hand; block; go >1; block; lay a", [at(1, 1)], "", [])
        self.check("hand; block; lay a; block; lay a; lay b", [at(0, 1)], "", [])
        self.check("hand; block; lay a; block; lay a; lay b", [at(1, 1)], "", [0])

    def test_never_waiting(self):
        for act in ("lay a", "lay a @1", "look z >0", "look ? >0", "same a a >0", "same a b >0", "go >0"):
            self.check(f"hand; block; {act}", [at(0, 0)], "", [0])
            self.check(f"hand; block; {act}", [at(0, 0)], "a", [0])

    def test_take_and_read(self):
        for act in ("take", "read"):
            self.check(f"hand; block; {act} a", [at(0, 0)], "", [])
            self.check(f"hand; block; {act} a", [at(0, 0)], "b", [])
            self.check(f"hand; block; {act} a", [at(0, 0)], "a 1; a a; 1", [])
            self.check(f"hand; block; {act} a", [at(0, 0)], "b; a", [0])
            self.check(f"hand; block; {act} a", [at(0, 0)], "a @1", [0])
            self.check(f"hand; block; {act} #", [at(0, 0)], "a; b; 99", [0])
            self.check(f"hand; block; {act} #", [at(0, 0)], "a; b; 9 9", [])
            self.check(f"hand; block; {act} $", [at(0, 0)], "0; 1", [])

    def test_by_its_names(self):
        lines = "hand; block; take ?n; take b =n; take c =n ?n =n"
        self.check(lines, [at(0, 1, n=1)], "b 2", [])
        self.check(lines, [at(0, 1, n=2)], "b 2", [0])
        self.check(lines, [at(0, 1, n="b")], "b 2; b b", [0])
        self.check(lines, [at(0, 2, n=1)], "c 2 1 1; c 1 2 1; c 1", [])
        self.check(lines, [at(0, 2, n=1)], "c 1 2 2", [0])
        self.check(lines, [at(0, 2, n=1)], "c 1 1 1", [0])

    def test_binds(self):
        self.check("hand; block; take ?n ?n", [at(0, 0)], "1 2; a b; 1 a", [])
        self.check("hand; block; take ?n ?n", [at(0, 0)], "1 2; a a", [0])
        self.check("hand; block; take ?n; take ?n", [at(0, 1, n=5)], "6", [0])
        self.check("hand; block; take ?n =n", [at(0, 0)], "1 2", [])
        self.check("hand; block; take ?n =n", [at(0, 0)], "2 2", [0])

    def test_rising_and_each_by_its_own(self):
        lines = "hand; block; take a; hand; block; lay a; hand; block; read b; hand; block; hand; block; go >0"
        places = [at(0, 0)] * 5
        self.check(lines, places, "", [1, 4])
        self.check(lines, places, "b", [1, 2, 4])
        self.check(lines, places, "a", [0, 1, 4])
        self.check(lines, places, "b; a", [0, 1, 2, 4])
        self.check(lines, [at(0, 1), at(0, 1), at(0, 1), at(0, 0), at(0, 0)], "b; a", [4])
        self.check("; ".join(["hand; block; take a"] * 5), places, "a", [0, 1, 2, 3, 4])

    def test_names_are_each_hands_own(self):
        lines = "hand; block; take ?n; take =n"
        self.check(f"{lines}; {lines}", [at(0, 1, n=1), at(0, 1, n=2)], "2", [1])
        self.check(f"{lines}; {lines}", [at(0, 1, n=2), at(0, 1, n=1)], "2", [0])


class GetsTest(unittest.TestCase):
    def check(self, lines, hand, notes, told):
        """Of the one hand, and of the same one as the second of three."""
        programs = programs_of(lines)
        stand = ((hand,), notes_of(notes))
        self.assertIsNone(fault_of(programs, stand))
        with self.subTest(lines=lines, stand=stand):
            first = gets(programs, stand, 0)
            self.assertEqual(first, told)
            self.assertIs(first.__class__, told.__class__)
            other = programs_of("hand; block; lay a; hand; block")
            three = (other[0], programs[0], other[1])
            self.assertEqual(gets(three, ((at(0, 0), hand, at(0, 0)), stand[1]), 1), told)
            self.assertIsNone(gets(three, ((at(0, 0), hand, at(0, 0)), stand[1]), 0))
            self.assertIsNone(gets(three, ((at(0, 0), hand, at(0, 0)), stand[1]), 2))

    def acts(self, pattern, hand, notes, told, ahead=""):
        for act in (f"take {pattern}", f"read {pattern}", f"look {pattern} >0"):
            self.check(f"hand; block; {ahead}{act}", hand, notes, told)

    def test_the_first_that_fits(self):
        self.acts("a", at(0, 0), "a", 0)
        self.acts("a", at(0, 0), "b; a; a", 1)
        self.acts("a ?", at(0, 0), "a; a @1; b 1; a 2 @1; a 1; a 1 @20", 3)
        self.acts("?", at(0, 0), "a b; a b; 7; a", 2)
        self.acts("#", at(0, 0), "a; b; 7; 8", 2)
        self.acts("$", at(0, 0), "7; a; 8; b", 1)
        self.acts("? ? ? ?", at(0, 0), "a; a b; a b c; a b c d", 3)

    def test_whatever_age(self):
        self.acts("a", at(0, 0), "a @20; a; a @1", 0)
        self.acts("a", at(0, 0), "b; a @1; a", 1)

    def test_none_fits(self):
        self.acts("a", at(0, 0), "", None)
        self.acts("a", at(0, 0), "b; a a; 1", None)

    def test_names_bound_twice(self):
        self.acts("?n ?n", at(0, 0), "1 2; a 1; 2 2; 1 1", 2)
        self.acts("?n ?m ?n ?m", at(0, 0), "1 1 1 2; 1 2 2 1; 1 2 1 2", 2)

    def test_bound_ones_known_ahead(self):
        self.acts("x ?n", at(0, 1, n=5), "x 6; x 5", 0, "take ?n; ")
        self.acts("?n ?n", at(0, 1, n=5), "5 6; 6 6", 1, "take ?n; ")

    def test_asked_ahead_of_a_binding(self):
        self.acts("=n ?n", at(0, 1, n=5), "6 5; 6 6; 5 6", 2, "take ?n; ")
        self.acts("=n ?n =n", at(0, 1, n=5), "5 6 5; 5 6 6", 1, "take ?n; ")
        self.acts("?n =n", at(0, 1, n=5), "4 5; 6 6", 1, "take ?n; ")

    def test_acts_that_get_nothing(self):
        for act in ("lay a", "same a a >0", "same a b >0", "go >0"):
            self.check(f"hand; block; {act}", at(0, 0), "a; b", None)
            self.check(f"hand; block; {act}; take a", at(0, 0), "a; b", None)

    def test_ended(self):
        self.check("hand; block; take a", at(0, 1), "a", None)
        self.check("hand; block", at(0, 0), "a", None)
        self.check("hand; block; take ?n; block; lay a", at(1, 1), "a", None)


class MovedTest(unittest.TestCase):
    def check(self, lines, hand, notes, hand_behind, notes_behind):
        """The one hand moves; it moves so, too, as each one of three, and the two others stay."""
        programs = programs_of(lines)
        before = ((hand,), notes_of(notes))
        behind = ((hand_behind,), notes_of(notes_behind))
        self.step(programs, before, 0, behind)
        waiting = programs_of("hand; block; take zz")[0]
        for number in range(3):
            many = (waiting,) * number + programs + (waiting,) * (2 - number)
            hands = [tuple([at(0, 0)] * number + [one] + [at(0, 0)] * (2 - number)) for one in (hand, hand_behind)]
            self.step(many, (hands[0], before[1]), number, (hands[1], behind[1]))

    def step(self, programs, before, mover, behind):
        self.assertIsNone(fault_of(programs, before))
        self.assertIsNone(fault_of(programs, behind))
        kept = copy.deepcopy((programs, before))
        with self.subTest(stand=before, mover=mover):
            told = moved(programs, before, mover)
            self.assertEqual(repr(told), repr(behind))
            self.assertEqual((programs, before), kept)

    def test_lay(self):
        self.check("hand; block; lay a 1", at(0, 0), "", at(0, 1), "a 1")
        self.check("hand; block; lay a 1", at(0, 0), "b; a 1 @1", at(0, 1), "b; a 1 @1; a 1")
        self.check("hand; block; lay 0; lay b", at(0, 1), "z @1", at(0, 2), "z @1; b")
        for age in (1, 2, 20):
            self.check(f"hand; block; lay a @{age}", at(0, 0), "b @1; b", at(0, 1), f"b @1; b; a @{age}")

    def test_lay_by_names(self):
        lines = "hand; block; take ?m ?n; lay =n +n =m +m @3"
        self.check(lines, at(0, 1, m=4, n=8), "z", at(0, 2, m=4, n=8), "z; 8 9 4 5 @3")
        self.check(lines, at(0, 1, m=99, n="x"), "z", at(0, 2, m=99, n="x"), "z; x x 99 0 @3")
        self.check(lines, at(0, 1, m=98, n=0), "", at(0, 2, m=98, n=0), "0 1 98 99 @3")

    def test_take(self):
        self.check("hand; block; take a", at(0, 0), "a", at(0, 1), "")
        self.check("hand; block; take a", at(0, 0), "b; a @3; c @1; a", at(0, 1), "b; c @1; a")
        self.check("hand; block; take ?n #", at(0, 0), "b; a a; a 3; a 4 @1", at(0, 1, n="a"), "b; a a; a 4 @1")
        self.check("hand; block; take ?; take ?", at(0, 1), "a; a; a @1", at(0, 2), "a; a @1")

    def test_read(self):
        self.check("hand; block; read a", at(0, 0), "a", at(0, 1), "a")
        self.check("hand; block; read a", at(0, 0), "b; a @3; a", at(0, 1), "b; a @3; a")
        self.check("hand; block; read ?n #", at(0, 0), "b; a 3; b 4 @1", at(0, 1, n="a"), "b; a 3; b 4 @1")

    def test_look(self):
        lines = "hand; block; look a ?n >1; block; lay z"
        self.check(lines, at(0, 0), "b; a 3 @2; a 4", at(0, 1, n=3), "b; a 3 @2; a 4")
        self.check(lines, at(0, 0), "b; a; b 1", at(1, 0), "b; a; b 1")
        self.check(lines, at(0, 0), "", at(1, 0), "")
        self.check("hand; block; lay a; look b >0", at(0, 1), "a", at(0, 0), "a")
        self.check("hand; block; lay a; look b >0", at(0, 1), "b", at(0, 2), "b")

    def test_names_behind_a_getting(self):
        for act in ("take {}", "read {}", "look {} >0"):
            rest = "c" if act.startswith("take") else "a 7 8; c"
            for pattern, names in (("a ?n ?k", dict(k=8, m=1, n=7)), ("a ?k ?", dict(k=7, m=1, n=2)),
                                   ("a ?m ?n", dict(m=7, n=8)), ("? # #", dict(m=1, n=2)), ("a ?n ?m", dict(m=8, n=7))):
                lines = "hand; block; read ?m ?n; " + act.format(pattern)
                self.check(lines, at(0, 1, m=1, n=2), "a 7 8; c", at(0, 2, **names), rest)
        self.check("hand; block; read ?n; take =n ?n", at(0, 1, n=1), "2 1; 1 2; 1 3", at(0, 2, n=2), "2 1; 1 3")

    def test_a_look_that_gets_none_binds_nothing(self):
        lines = "hand; block; read ?m ?n; look z ?n ?k >1; block m n; lay =n"
        self.check(lines, at(0, 1, m=1, n=2), "1 2", at(1, 0, m=1, n=2), "1 2")

    def test_same(self):
        lines = "hand; block; read ?m ?n; same {} {} >1; block n; lay =n"
        for one, other, alike in (("=m", "=n", False), ("=m", "1", True), ("1", "=m", True), ("=n", "=n", True),
                                  ("a", "a", True), ("a", "b", False), ("0", "0", True), ("0", "1", False),
                                  ("=n", "1", False), ("1", "x", False), ("x", "=n", True), ("n", "=n", False)):
            behind = at(0, 2, m=1, n="x") if alike else at(1, 0, n="x")
            self.check(lines.format(one, other), at(0, 1, m=1, n="x"), "1 x; 1", behind, "1 x; 1")

    def test_a_word_is_no_number(self):
        lines = "hand; block; read ?m ?n; same =m =n >0"
        for one, other in ((0, "a"), (1, "b"), ("a", 0), (10, "ten"), (99, "z")):
            self.check(lines, at(0, 1, m=one, n=other), "", at(0, 0), "")
        for value in (0, 1, 99, "a", "zz"):
            self.check(lines, at(0, 1, m=value, n=value), "", at(0, 2, m=value, n=value), "")

    def test_go(self):
        self.check("hand; block; go >0", at(0, 0), "a @1", at(0, 0), "a @1")
        self.check("hand; block; lay a; go >1; block", at(0, 1), "a @1", at(1, 0), "a @1")
        self.check("hand; block; block; lay a; go >0", at(1, 1), "", at(0, 0), "")
        self.check("hand; block; go >5; block; block; block; block; block; lay a", at(0, 0), "", at(5, 0), "")

    def test_names_behind_a_going(self):
        """Of its names the hand keeps just those that the block wants."""
        for wanted in ("", "k", "m", "n", "k m", "k n", "m n", "k m n"):
            names = {"k": 1, "m": "m", "n": 99}
            kept = {name: names[name] for name in wanted.split()}
            for act in ("go >1", "same a b >1", "look z >1"):
                lines = f"hand; block; read ?n ?m ?k; {act}; block {wanted}".rstrip()
                self.check(lines, at(0, 1, **names), "a", at(1, 0, **kept), "a")

    def test_behind_a_go(self):
        self.check("hand; block; go >0; lay a", at(0, 1), "", at(0, 2), "a")

    def test_clock(self):
        nobody = ((), notes_of("a; b @1; c @2; d @20; a; b @1; e @3"))
        self.step((), nobody, 0, ((), notes_of("a; c @1; d @19; a; e @2")))
        self.step((), ((), ()), 0, ((), ()))
        self.step((), ((), notes_of("a @1; a @1")), 0, ((), ()))
        self.step((), ((), notes_of("a; a")), 0, ((), notes_of("a; a")))
        programs = programs_of("hand; block; take ?n; lay =n; hand; block; lay a; hand; block")
        hands = (at(0, 1, n="b"), at(0, 0), at(0, 0))
        self.step(programs, (hands, nobody[1]), 3, (hands, notes_of("a; c @1; d @19; a; e @2")))

    def test_ages_run_out(self):
        for age in range(1, 21):
            stand = ((), notes_of(f"a @{age}; b"))
            for left in range(age - 1, 0, -1):
                stand = moved((), stand, 0)
                self.assertEqual(stand, ((), notes_of(f"a @{left}; b")))
            self.assertEqual(moved((), stand, 0), ((), notes_of("b")))

    def test_kinds(self):
        for programs, stand in made_stands(11, 60):
            for mover in ready(programs, stand) + [len(programs)]:
                hands, notes = moved(programs, stand, mover)
                self.assertIs(hands.__class__, tuple)
                self.assertIs(notes.__class__, tuple)


class NoMoverTest(unittest.TestCase):
    def refused(self, programs, stand, mover):
        kept = copy.deepcopy((programs, stand, mover))
        with self.subTest(stand=stand, mover=repr(mover)[:100]):
            with self.assertRaises(NotReady) as caught:
                moved(programs, stand, mover)
            self.assertEqual(caught.exception.place, 0)
            self.assertIs(caught.exception.place.__class__, int)
            self.assertIs(caught.exception.__class__, NotReady)
            self.assertIsInstance(caught.exception, BoardError)
            self.assertIsInstance(caught.exception, ValueError)
            self.assertNotIsInstance(caught.exception, (NoLine, TooMany, NoRow))
            self.assertEqual((programs, stand, mover), kept)

    def test_ended_and_waiting_hands(self):
        programs = programs_of("hand; block; lay a; hand; block; take b; hand; block; read b; hand; block")
        stand = ((at(0, 1), at(0, 0), at(0, 0), at(0, 0)), notes_of("a; c"))
        for mover in range(4):
            self.refused(programs, stand, mover)
        self.assertEqual(moved(programs, stand, 4), stand)

    def test_numbers(self):
        programs = programs_of("hand; block; lay a; hand; block; lay b")
        for hands in range(3):
            stand = ((at(0, 0),) * hands, notes_of("a"))
            for mover in (-1, -2, -3, hands + 1, hands + 2, 99, 10 ** 59, -(10 ** 59)):
                self.refused(programs[:hands], stand, mover)

    def test_other_kinds(self):
        programs = programs_of("hand; block; lay a; hand; block; lay b")
        things = [thing for thing in plain_things() if not thing.__class__ is int]
        things += ["0", "1", "2", (), (0,), (1,), [0], [1], [2], [[0]], ((0,), 0), "clock", "lay"]
        for hands in range(3):
            for thing in things:
                self.refused(programs[:hands], ((at(0, 0),) * hands, notes_of("a")), thing)


class OthersStayTest(unittest.TestCase):
    def test_no_other_hand_turns_and_the_order_stays(self):
        for programs, stand in made_stands(21, 120):
            hands, notes = stand
            for mover in ready(programs, stand):
                place = gets(programs, stand, mover)
                after_hands, after_notes = moved(programs, stand, mover)
                with self.subTest(stand=stand, mover=mover):
                    self.assertEqual(after_hands[:mover], hands[:mover])
                    self.assertEqual(after_hands[mover + 1:], hands[mover + 1:])
                    rests = [notes] + ([notes[:place] + notes[place + 1:]] if place is not None else [])
                    news = [after_notes, after_notes[:-1]]
                    self.assertTrue(any([rest == new for rest in rests for new in news]))

    def test_the_clock_turns_no_hand(self):
        for programs, stand in made_stands(22, 120):
            hands, notes = moved(programs, stand, len(programs))
            self.assertEqual(hands, stand[0])
            self.assertEqual([row for row, age in notes], [row for row, age in stand[1] if age != 1])

    def test_ready_till_it_moves(self):
        for programs, stand in made_stands(23, 120):
            movers = ready(programs, stand)
            for mover in movers + [len(programs)]:
                behind = ready(programs, moved(programs, stand, mover))
                for hand in movers:
                    number, place, names = stand[0][hand]
                    if hand != mover and programs[hand][number][1][place][0] in ("lay", "look", "same", "go"):
                        self.assertIn(hand, behind)

    def test_not_ready_again(self):
        programs = programs_of("hand; block; take a; hand; block; read a")
        stand = ((at(0, 0), at(0, 0)), notes_of("a"))
        self.assertEqual(ready(programs, stand), [0, 1])
        self.assertEqual(ready(programs, moved(programs, stand, 0)), [])
        self.assertEqual(ready(programs, moved(programs, stand, 1)), [0])
        aged = ((at(0, 0), at(0, 0)), notes_of("a @1"))
        self.assertEqual(ready(programs, aged), [0, 1])
        self.assertEqual(ready(programs, moved(programs, aged, 2)), [])

    def test_where_none_is_ready_none_is_again(self):
        many = 0
        for programs, stand in made_stands(24, 200):
            if not ready(programs, stand):
                many += 1
                for _ in range(22):
                    rows = [row for row, age in stand[1]]
                    stand = moved(programs, stand, len(programs))
                    self.assertEqual(ready(programs, stand), [])
                    self.assertLessEqual(len(stand[1]), len(rows))
        self.assertGreater(many, 50)


class WholeTest(unittest.TestCase):
    def test_each_move_leads_to_a_stand_without_fault(self):
        for programs, stand in made_stands(31, 400):
            self.assertIsNone(fault_of(programs, stand))
            for mover in ready(programs, stand) + [len(programs)]:
                with self.subTest(programs=programs, stand=stand, mover=mover):
                    self.assertIsNone(fault_of(programs, moved(programs, stand, mover)))

    def test_of_programs_with_many_names_and_blocks(self):
        source = random.Random(32)
        for _ in range(200):
            stand = made_stand(source, tuple(PROGRAMS))
            for _ in range(12):
                mover = source.choice(ready(PROGRAMS, stand) + [5])
                stand = moved(tuple(PROGRAMS), stand, mover)
                self.assertIsNone(fault_of(tuple(PROGRAMS), stand))

    def test_as_a_second_board_moves(self):
        seen = set()
        for programs, stand in made_stands(33, 400):
            board = Board(programs, stand)
            movers = [mover for mover in range(len(programs)) if board.is_ready(mover)]
            with self.subTest(programs=programs, stand=stand):
                self.assertEqual(ready(programs, stand), movers)
                for hand in range(len(programs)):
                    found = board.found(hand)
                    self.assertEqual(gets(programs, stand, hand), found and found[0])
                    if hand not in movers:
                        self.assertRaises(NotReady, moved, programs, stand, hand)
                for mover in movers + [len(programs)]:
                    other = Board(programs, stand)
                    seen.add(other.move(mover)[0])
                    self.assertEqual(repr(moved(programs, stand, mover)), repr(other.stand()))
        self.assertEqual(seen, {"lays", "takes", "reads", "looks", "goes", "clock"})

    def test_nothing_handed_in_is_changed(self):
        for programs, stand in made_stands(34, 30):
            kept = copy.deepcopy((programs, stand))
            for mover in ready(programs, stand) + [len(programs)]:
                moved(programs, stand, mover)
            [gets(programs, stand, hand) for hand in range(len(programs))]
            self.assertEqual(repr((programs, stand)), repr(kept))


if __name__ == "__main__":
    unittest.main()
