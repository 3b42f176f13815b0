import copy
import random
import unittest

from helper import Board, at, made_plans, made_stand, notes_of, plain_things, plan_of
from noteboard.errors import BoardError, NoLine, NoRow, NotReady, TooMany
from noteboard.moving import moved, ready
from noteboard.stands import fault_of, first_stand
from noteboard.weaving import by_turns, woven

# The first hand makes jobs, the second one does them.
JOBS = plan_of("note job 0; hand; block; take job ?n; lay todo =n; lay job +n @3; go >0; "
               "hand; block; take todo ?n; lay done =n @2; go >0")


def any_weaving(source, programs, stand, many):
    movers = []
    for _ in range(many):
        movers.append(source.choice(ready(programs, stand) * 3 + [len(programs)]))
        stand = moved(programs, stand, movers[-1])
    return movers, stand


class WovenTest(unittest.TestCase):
    def check(self, programs, stand, movers, told):
        for kind in (list, tuple):
            given = kind(movers)
            kept = copy.deepcopy((programs, stand, given))
            with self.subTest(movers=given):
                self.assertEqual(repr(woven(programs, stand, given)), repr(told))
                self.assertEqual(repr((programs, stand, given)), repr(kept))

    def test_none(self):
        for plan in made_plans(1, 40):
            self.check(plan[0], first_stand(plan), [], first_stand(plan))

    def test_of_jobs(self):
        programs, notes = JOBS
        stand = first_stand(JOBS)
        self.check(programs, stand, [0], ((at(0, 1, n=0), at(0, 0)), ()))
        self.check(programs, stand, [0, 0], ((at(0, 2, n=0), at(0, 0)), notes_of("todo 0")))
        self.check(programs, stand, [0, 0, 0], ((at(0, 3, n=0), at(0, 0)), notes_of("todo 0; job 1 @3")))
        self.check(programs, stand, [0, 0, 0, 2, 1, 0], ((at(0, 0), at(0, 1, n=0)), notes_of("job 1 @2")))
        self.check(programs, stand, [0, 0, 0, 2, 1, 1, 2, 0],
                   ((at(0, 0), at(0, 2, n=0)), notes_of("job 1 @1; done 0 @1")))
        self.check(programs, stand, [0, 0, 0, 2, 2, 2, 0, 1, 2], ((at(0, 0), at(0, 1, n=0)), ()))
        self.check(programs, stand, [2, 2], stand)

    def test_no_hands(self):
        self.check((), ((), notes_of("a @3; b; c @2")), [0, 0], ((), notes_of("a @1; b")))
        self.check((), ((), ()), [0] * 400, ((), ()))

    def test_move_by_move(self):
        source = random.Random(41)
        for programs, notes in made_plans(41, 80):
            for stand in (first_stand((programs, notes)), made_stand(source, programs)):
                movers, told = any_weaving(source, programs, stand, 15)
                self.check(programs, stand, movers, told)
                self.assertIsNone(fault_of(programs, told))
                board = Board(programs, stand)
                for mover in movers:
                    board.move(mover)
                self.assertEqual(repr(board.stand()), repr(told))

    def test_long_ones(self):
        programs = plan_of("hand; block; lay a 1 @20; take a ?n; go >0")[0]
        stand = ((at(0, 0),), ())
        self.check(programs, stand, [0] * 399 + [1], ((at(0, 0),), ()))
        self.check(programs, stand, [0] * 3000, ((at(0, 0),), ()))
        lays = plan_of("hand; block; lay a; go >0")[0]
        self.check(lays, stand, [0] * 1000, ((at(0, 0),), notes_of("a") * 500))


class RefusedTest(unittest.TestCase):
    def refused(self, programs, stand, movers, place):
        for kind in (list, tuple):
            given = kind(movers)
            kept = copy.deepcopy((programs, stand, given))
            with self.subTest(stand=stand, movers=repr(given)[:200]):
                with self.assertRaises(NotReady) as caught:
                    woven(programs, stand, given)
                self.assertEqual(caught.exception.place, place)
                self.assertIs(caught.exception.place.__class__, int)
                self.assertIs(caught.exception.__class__, NotReady)
                self.assertIsInstance(caught.exception, (BoardError, ValueError))
                self.assertNotIsInstance(caught.exception, (NoLine, TooMany, NoRow))
                self.assertEqual(repr((programs, stand, given)), repr(kept))

    def test_the_first_that_is_not_ready_then(self):
        programs = JOBS[0]
        stand = first_stand(JOBS)
        self.refused(programs, stand, [1], 0)
        self.refused(programs, stand, [0, 1], 1)
        self.refused(programs, stand, [0, 1, 1, 9], 1)
        self.refused(programs, stand, [0, 0, 1, 1, 1, 1, 0], 5)
        self.refused(programs, stand, [0, 0, 0, 2, 2, 2, 0, 0], 7)
        self.refused(programs, stand, [2, 2, 3], 2)
        self.refused((), ((), ()), [0, 0, 1, 0], 2)
        self.refused((), ((), ()), [1], 0)

    def test_far_on(self):
        programs = JOBS[0]
        stand = first_stand(JOBS)
        self.refused(programs, stand, [2] * 399 + [1], 399)
        self.refused(programs, stand, [2] * 399 + [None], 399)

    def test_things_of_any_kind(self):
        programs = JOBS[0]
        stand = first_stand(JOBS)
        for thing in plain_things() + [-1, 3, "0", "2", (0,), [0], [2], (2,), (), True, False]:
            self.refused(programs, stand, [thing], 0)
            self.refused(programs, stand, [2, 0, thing, 0, 1], 2)
            self.refused(programs, stand, [0, 0, 1, 1, 1, thing], 5)
            self.refused(programs, stand, [0, 0, 0, thing, thing], 3)

    def test_truths_are_no_movers(self):
        programs = plan_of("hand; block; lay a; lay a; hand; block; lay b; lay b")[0]
        stand = ((at(0, 0), at(0, 0)), ())
        self.refused(programs, stand, [0, True], 1)
        self.refused(programs, stand, [False, 1], 0)

    def test_bent_at_each_place(self):
        source = random.Random(42)
        for programs, notes in made_plans(42, 40):
            stand = first_stand((programs, notes))
            movers, told = any_weaving(source, programs, stand, 10)
            before = stand
            for k, mover in enumerate(movers):
                for other in range(-1, len(programs) + 2):
                    if other != len(programs) and other not in ready(programs, before):
                        self.refused(programs, stand, movers[:k] + [other] + movers[k + 1:], k)
                before = moved(programs, before, mover)


def turns(programs, stand, many):
    """By turns, told once more: each round anew, on the second board."""
    board = Board(programs, stand)
    hands = range(len(programs))
    movers = []
    while True:
        for mover in range(len(programs) + 1):
            if len(movers) == many or not any([board.is_ready(hand) for hand in hands]):
                return movers
            if board.is_ready(mover):
                board.move(mover)
                movers.append(mover)


class ByTurnsTest(unittest.TestCase):
    def check(self, programs, stand, many, told):
        kept = copy.deepcopy((programs, stand))
        with self.subTest(stand=stand, many=many):
            first = by_turns(programs, stand, many)
            self.assertIs(first.__class__, list)
            self.assertEqual(repr(first), repr(told))
            first.append(0)
            first.reverse()
            self.assertEqual(by_turns(programs, stand, many), told)
            self.assertEqual(repr((programs, stand)), repr(kept))

    def test_how_many(self):
        programs = JOBS[0]
        stand = first_stand(JOBS)
        told = [0, 2, 0, 1, 2, 0, 1, 2, 0, 1, 2, 0, 2]
        for many in range(len(told) + 1):
            self.check(programs, stand, many, told[:many])
        for many in (399, 400):
            self.assertEqual(len(by_turns(programs, stand, many)), many)

    def test_one_hand_without_end(self):
        programs = plan_of("hand; block; go >0")[0]
        stand = ((at(0, 0),), notes_of("a @20"))
        self.check(programs, stand, 0, [])
        self.check(programs, stand, 1, [0])
        self.check(programs, stand, 400, [0, 1] * 200)
        self.check(programs, stand, 399, [0, 1] * 199 + [0])

    def test_ends_as_soon_as_no_hand_is_ready(self):
        programs = plan_of("hand; block; lay a; hand; block; take a; hand; block; take b")[0]
        self.check(programs, ((at(0, 0),) * 3, ()), 400, [0, 1])
        self.check(programs, ((at(0, 0),) * 3, notes_of("b")), 400, [0, 1, 2])
        self.check(programs, ((at(0, 1),) * 3, notes_of("b")), 400, [])
        self.check(programs, ((at(0, 1), at(0, 0), at(0, 0)), ()), 400, [])
        self.check(programs, ((at(0, 1), at(0, 0), at(0, 0)), notes_of("b")), 1, [2])

    def test_ahead_of_the_clocks_turn(self):
        """The clock moves once where a hand is ready behind its last turn, and not where none is."""
        programs = plan_of("hand; block; lay a; lay b")[0]
        self.check(programs, ((at(0, 0),), notes_of("c @9")), 400, [0, 1, 0])

    def test_behind_the_clocks_turn(self):
        programs = plan_of("hand; block; lay a; take c; lay b")[0]
        self.check(programs, ((at(0, 0),), notes_of("c @1")), 400, [0, 1])
        self.check(programs, ((at(0, 0),), notes_of("c @2")), 400, [0, 1, 0, 1, 0])
        self.check(programs, ((at(0, 1),), notes_of("c @1")), 400, [0, 1, 0])

    def test_one_whose_turn_is_missed_waits_for_the_next(self):
        programs = plan_of("hand; block; take a; lay z; hand; block; lay a; lay y")[0]
        self.check(programs, ((at(0, 0), at(0, 0)), ()), 400, [1, 2, 0, 1, 2, 0])

    def test_no_hands(self):
        for many in (0, 1, 400):
            self.check((), ((), notes_of("a @2")), many, [])
            self.check((), ((), ()), many, [])

    def test_as_on_a_second_board(self):
        source = random.Random(43)
        for programs, notes in made_plans(43, 150):
            for stand in (first_stand((programs, notes)), made_stand(source, programs)):
                for many in (0, 1, 2, 7, 40):
                    movers = turns(programs, stand, many)
                    self.check(programs, stand, many, movers)
                    self.assertIsNone(fault_of(programs, woven(programs, stand, movers)))


if __name__ == "__main__":
    unittest.main()
