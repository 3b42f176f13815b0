import copy
import random
import unittest

from helper import (A, ALWAYS, Board, COUNTING, NEVER, at, distances, is_seen, made_sight, notes_of, plan_of, sight_of,
                    small_ones, steps_plan)
from noteboard.closing import lets_closed, lets_never
from noteboard.errors import BoardError, NoLine, NoRow, NotReady, TooMany
from noteboard.moving import moved
from noteboard.nevers import never
from noteboard.reaching import reached
from noteboard.sights import is_plain
from noteboard.stands import first_stand


class NeverTest(unittest.TestCase):
    def check(self, programs, stand, sight, word):
        """A paper of this sort, which is let by, and the asker's own."""
        kept = copy.deepcopy((programs, stand, sight))
        with self.subTest(stand=stand, sight=sight):
            paper = never(programs, stand, sight)
            self.assertIs(paper.__class__, tuple)
            self.assertEqual(len(paper), 2)
            self.assertEqual(paper[0], word)
            self.assertIs(paper[1].__class__, list)
            self.assertIs(lets_never(programs, stand, sight, paper), True)
            self.assertIs(lets_never(programs, stand, ("not", ("not", sight)), paper), True)
            paper[1].insert(0, None)
            paper[1].clear()
            again = never(programs, stand, sight)
            self.assertEqual(again[0], word)
            self.assertIs(lets_never(programs, stand, sight, again), True)
            self.assertEqual(repr((programs, stand, sight)), repr(kept))

    def test_seen_at_once(self):
        for text in ("", "note a", "note a @2; hand; block; lay b", "note a; hand; block; take a"):
            plan = plan_of(text)
            self.check(plan[0], first_stand(plan), ALWAYS, "seen")
            self.check(plan[0], first_stand(plan), ("not", NEVER), "seen")
            self.check(plan[0], first_stand(plan), ("some", (A, ALWAYS)), "seen")
            if plan[1]:
                self.check(plan[0], first_stand(plan), A, "seen")

    def test_never(self):
        for text in ("", "note b", "note b @2; hand; block; lay b", "note b; hand; block; take b; go >0"):
            plan = plan_of(text)
            self.check(plan[0], first_stand(plan), NEVER, "never")
            self.check(plan[0], first_stand(plan), A, "never")
            self.check(plan[0], first_stand(plan), ("all", (A, ALWAYS)), "never")
            self.check(plan[0], first_stand(plan), ("not", ALWAYS), "never")

    def test_seen_later(self):
        plan = plan_of("note a @3; hand; block; take a; lay b; hand; block; read b; lay c @1")
        stand = first_stand(plan)
        for sight, word in ((("not", A), "seen"), (sight_of("b"), "seen"), (sight_of("c"), "seen"),
                            (sight_of("c", 2), "never"), (("all", (A, sight_of("b"))), "never"),
                            (("all", (("ended", 1), sight_of("c"))), "seen"), (("ended", 0), "seen"),
                            (("all", (("ended", 1), ("not", ("ended", 0)))), "never"),
                            (("all", (("not", A), ("not", sight_of("b")), ("at", 0, 0, 0))), "seen"),
                            (("at", 1, 0, 1), "seen"), (("all", (("at", 1, 0, 1), ("at", 0, 0, 1))), "never")):
            self.check(plan[0], stand, sight, word)

    def test_the_list_told_is_closed(self):
        plan = plan_of("note a @3; hand; block; take a; lay b; hand; block; read b; lay c @1")
        stand = first_stand(plan)
        told = never(plan[0], stand, NEVER)[1]
        self.assertIs(lets_closed(plan[0], stand, told), True)
        self.assertEqual(set(told) >= set(distances(plan[0], stand)), True)

    def test_two_hands_never_at_once(self):
        """One note is the key; each hand takes it and lays it again."""
        plan = plan_of("note key; hand; block; take key; lay in; take in; lay key; go >0; "
                       "hand; block; take key; lay in; take in; lay key; go >0")
        stand = first_stand(plan)
        self.check(plan[0], stand, sight_of("in", 2), "never")
        self.check(plan[0], stand, sight_of("in"), "seen")
        self.check(plan[0], stand, ("all", (("at", 0, 0, 1), ("at", 1, 0, 1))), "never")
        two = (stand[0], notes_of("key; key"))
        self.check(plan[0], two, sight_of("in", 2), "seen")

    def test_of_many_plans(self):
        source = random.Random(221)
        told = []
        for programs, stand in small_ones(221, 120):
            boards = [Board(programs, one) for one in distances(programs, stand)]
            for _ in range(4):
                sight = made_sight(source, programs, 3)
                word = "seen" if any([is_seen(board, sight) for board in boards]) else "never"
                told.append((word, is_plain(sight)))
                self.check(programs, stand, sight, word)
        for sort in (("seen", True), ("seen", False), ("never", True), ("never", False)):
            self.assertGreater(told.count(sort), 25)

    def test_long_ways(self):
        stand = first_stand(COUNTING)
        self.check(COUNTING[0], stand, ("ended", 0), "seen")
        self.check(COUNTING[0], stand, sight_of("c 99 3"), "seen")
        self.check(COUNTING[0], stand, sight_of("c 99 4"), "never")
        self.check(COUNTING[0], stand, sight_of("?", 1), "never")


class TooManyTest(unittest.TestCase):
    SIGHTS = (ALWAYS, NEVER, A, ("not", A), ("at", 0, 0, 0), ("ended", 0), ("not", ("ended", 0)), sight_of("?", 9))

    def refused(self, programs, stand):
        kept = copy.deepcopy((programs, stand))
        for sight in self.SIGHTS:
            with self.assertRaises(TooMany) as caught:
                never(programs, stand, sight)
            self.assertIs(caught.exception.__class__, TooMany)
            self.assertIsInstance(caught.exception, BoardError)
            self.assertNotIsInstance(caught.exception, (NoLine, NotReady, NoRow))
        self.assertEqual(repr((programs, stand)), repr(kept))

    def told(self, programs, stand):
        for sight in self.SIGHTS:
            self.assertIs(lets_never(programs, stand, sight, never(programs, stand, sight)), True)

    def test_two_thousand(self):
        for many in ((20, 10, 10), (25, 40, 2)):
            plan = steps_plan(*many)
            self.assertEqual(len(reached(plan[0], first_stand(plan))), 2000)
            self.told(plan[0], first_stand(plan))

    def test_two_thousand_and_one(self):
        plan = steps_plan(3, 23, 29)
        stand = first_stand(plan)
        self.refused(plan[0], stand)
        self.told(plan[0], moved(plan[0], stand, 0))

    def test_more(self):
        plan = steps_plan(49, 49, 49)
        self.refused(plan[0], first_stand(plan))

    def test_boards_that_grow(self):
        for text in ("hand; block; lay a; go >0", "note a; hand; block; read a; lay a; go >0"):
            plan = plan_of(text)
            self.refused(plan[0], first_stand(plan))

    def test_a_stand_that_no_weaving_leads_to(self):
        plan = steps_plan(3, 23, 29)
        self.told(plan[0], ((at(0, 2), at(2, 5), at(3, 0)), notes_of("z; z")))


if __name__ == "__main__":
    unittest.main()
