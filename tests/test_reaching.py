import copy
import itertools
import unittest

from helper import A, ALWAYS, Board, COUNTING, NEVER, at, distances, notes_of, plan_of, small_ones, steps_plan
from noteboard.errors import BoardError, NoLine, NoRow, NotReady, TooMany
from noteboard.logs import lets_log, lives, log_of, lying
from noteboard.moving import moved, ready
from noteboard.reaching import ends, reached, way_to
from noteboard.sights import sees
from noteboard.stands import fault_of, first_stand
from noteboard.weaving import woven


class ReachedTest(unittest.TestCase):
    def check(self, programs, stand, layers):
        """The stands told are those of the layers, one layer behind another, each in any order."""
        kept = copy.deepcopy((programs, stand))
        told = reached(programs, stand)
        self.assertIs(told.__class__, list)
        self.assertEqual(told[0], stand)
        place = 0
        for layer in layers:
            self.assertEqual(sorted(told[place:place + len(layer)], key=repr), sorted(layer, key=repr))
            place += len(layer)
        self.assertEqual(len(told), place)
        told.clear()
        self.assertEqual(len(reached(programs, stand)), place)
        self.assertEqual(repr((programs, stand)), repr(kept))

    def test_it_itself_alone(self):
        self.check((), ((), ()), [[((), ())]])
        self.check((), ((), notes_of("a")), [[((), notes_of("a"))]])
        waiting = plan_of("hand; block; take b")[0]
        self.check(waiting, ((at(0, 0),), notes_of("a")), [[((at(0, 0),), notes_of("a"))]])
        turning = plan_of("hand; block; go >0")[0]
        self.check(turning, ((at(0, 0),), ()), [[((at(0, 0),), ())]])

    def test_the_clock_alone(self):
        layers = [[((), notes_of(text))] for text in ("a @3; b; c @1", "a @2; b", "a @1; b", "b")]
        self.check((), layers[0][0], layers)

    def test_layers(self):
        programs = plan_of("hand; block; lay a; hand; block; lay b")[0]
        one, two = at(0, 0), at(0, 1)
        self.check(programs, ((one, one), ()), [
            [((one, one), ())], [((two, one), notes_of("a")), ((one, two), notes_of("b"))],
            [((two, two), notes_of("a; b")), ((two, two), notes_of("b; a"))]])

    def test_a_shorter_way_counts(self):
        """The clock takes two moves to the stand to which the hand comes by one."""
        programs = plan_of("hand; block; take a; lay b; block; go >1")[0]
        stand = ((at(0, 0),), notes_of("a @2"))
        self.check(programs, stand, [
            [stand], [((at(0, 1),), ()), ((at(0, 0),), notes_of("a @1"))],
            [((at(0, 2),), notes_of("b")), ((at(0, 0),), ())]])

    def test_each_once(self):
        for programs, stand in small_ones(110, 100):
            told = reached(programs, stand)
            self.assertEqual(len(set(told)), len(told))

    def test_of_many_plans(self):
        many = 0
        for programs, stand in small_ones(111, 200):
            far = distances(programs, stand)
            layers = [[one for one in far if far[one] == k] for k in range(max(far.values()) + 1)]
            many += len(far) > 20
            with self.subTest(programs=programs, stand=stand):
                self.check(programs, stand, layers)
        self.assertGreater(many, 50)

    def test_each_is_without_fault_and_each_move_stays_within(self):
        for programs, stand in small_ones(112, 100):
            told = reached(programs, stand)
            for one in told:
                self.assertIsNone(fault_of(programs, one))
                for mover in ready(programs, one) + [len(programs)]:
                    self.assertIn(moved(programs, one, mover), told)


class WayTest(unittest.TestCase):
    def check(self, programs, stand, sight, many):
        """A way of so many moves; None where there is none."""
        kept = copy.deepcopy((programs, stand, sight))
        with self.subTest(stand=stand, sight=sight):
            way = way_to(programs, stand, sight)
            if many is None:
                self.assertIsNone(way)
            else:
                self.assertIs(way.__class__, list)
                self.assertTrue(all([mover.__class__ is int for mover in way]))
                self.assertEqual(len(way), many)
                self.assertTrue(sees(programs, woven(programs, stand, way), sight))
                way.append(0)
                self.assertEqual(len(way_to(programs, stand, sight)), many)
            self.assertEqual(repr((programs, stand, sight)), repr(kept))

    def test_seen_by_itself(self):
        for text in ("", "note a", "note a @2; hand; block; lay b", "note a; hand; block"):
            plan = plan_of(text)
            self.assertEqual(way_to(plan[0], first_stand(plan), ALWAYS), [])
            self.check(plan[0], first_stand(plan), NEVER, None)
            self.assertEqual(way_to(plan[0], first_stand(plan), ("some", (A, ALWAYS))), [])

    def test_the_fewest_moves(self):
        programs, notes = plan_of("note z @2; hand; block; lay b; lay c; lay a; hand; block; take b; take c; lay a; "
                                  "hand; block; look z >1; go >0; block; lay a")
        stand = first_stand((programs, notes))
        self.check(programs, stand, A, 3)
        self.check(programs, stand, ("all", (A, ("not", ("at", 0, 0, 3)), ("ended", 2))), 4)
        self.check(programs, stand, ("ended", 1), 5)
        self.check(programs, stand, ("ended", 2), 4)
        self.check(programs, stand, ("at", 1, 0, 1), 2)
        self.check(programs, stand, ("notes", (("is", "a"),), 3), 10)
        self.check(programs, stand, ("notes", (("is", "a"),), 4), None)
        self.check(programs, stand, ("not", ("notes", (("any",),), 1)), 2)

    def test_just_the_movers(self):
        programs = plan_of("hand; block; lay a; lay b; hand; block; take b")[0]
        self.assertEqual(way_to(programs, ((at(0, 0), at(0, 0)), ()), ("ended", 1)), [0, 0, 1])
        self.assertEqual(way_to((), ((), notes_of("a @3")), ("not", A)), [0, 0, 0])

    def test_none(self):
        programs = plan_of("hand; block; take a; lay b")[0]
        self.check(programs, ((at(0, 0),), ()), ("at", 0, 0, 1), None)
        self.check(programs, ((at(0, 0),), ()), ("notes", (("is", "b"),), 1), None)
        self.check(programs, ((at(0, 0),), notes_of("a")), ("notes", (("is", "b"),), 2), None)

    def test_of_many_plans(self):
        told = []
        for programs, stand in small_ones(121, 120):
            far = distances(programs, stand)
            sights = [A, ("not", A), ("notes", (("any",),), 2), ("notes", (("bind", "n"), ("bind", "n")), 1)]
            sights += [("ended", hand) for hand in range(len(programs))]
            sights += [("at", hand, len(one) - 1, 0) for hand, one in enumerate(programs)]
            sights.append(("all", tuple(sights[4:])))
            for sight in sights:
                seeing = [far[one] for one in far if sees(programs, one, sight)]
                told.append(min(seeing, default=None))
                self.check(programs, stand, sight, told[-1])
        self.assertGreater(told.count(None), 50)
        self.assertGreater(len([many for many in told if many]), 50)


class EndsTest(unittest.TestCase):
    def check(self, programs, stand, told):
        kept = copy.deepcopy((programs, stand))
        with self.subTest(stand=stand):
            first = ends(programs, stand)
            self.assertIs(first.__class__, list)
            self.assertEqual(sorted(first, key=repr), sorted(told, key=repr))
            first.append(None)
            self.assertEqual(len(ends(programs, stand)), len(told))
            self.assertEqual(repr((programs, stand)), repr(kept))

    def test_ends(self):
        self.check((), ((), ()), [((), ())])
        self.check((), ((), notes_of("a @2")), [((), notes_of("a @2")), ((), notes_of("a @1")), ((), ())])
        programs = plan_of("hand; block; take a; hand; block; take a; lay b @1")[0]
        one, two = at(0, 0), at(0, 1)
        self.check(programs, ((one, one), notes_of("a")), [
            ((two, one), ()), ((one, at(0, 2)), notes_of("b @1")), ((one, at(0, 2)), ())])

    def test_none(self):
        programs = plan_of("hand; block; go >0; hand; block; take a")[0]
        self.check(programs, ((at(0, 0), at(0, 0)), notes_of("a; b @1")), [])

    def test_those_of_reached_in_their_order(self):
        many = 0
        for programs, stand in small_ones(131, 200):
            far = distances(programs, stand)
            boards = {one: Board(programs, one) for one in far}
            told = [one for one in far if not any([boards[one].is_ready(hand) for hand in range(len(programs))])]
            many += len(told) > 1
            self.check(programs, stand, told)
            moves = [far[one] for one in ends(programs, stand)]
            self.assertEqual(moves, sorted(moves))
        self.assertGreater(many, 50)


class TooManyTest(unittest.TestCase):
    def refused(self, programs, stand):
        kept = copy.deepcopy((programs, stand))
        asked = [lambda: reached(programs, stand), lambda: ends(programs, stand)]
        for sight in (ALWAYS, NEVER, A, ("not", A), ("at", 0, 0, 0), ("ended", 0)):
            asked.append(lambda sight=sight: way_to(programs, stand, sight))
        for ask in asked:
            with self.assertRaises(TooMany) as caught:
                ask()
            self.assertIs(caught.exception.__class__, TooMany)
            self.assertIsInstance(caught.exception, BoardError)
            self.assertIsInstance(caught.exception, ValueError)
            self.assertNotIsInstance(caught.exception, (NoLine, NotReady, NoRow))
        self.assertEqual(repr((programs, stand)), repr(kept))

    def told(self, programs, stand, many):
        self.assertEqual(len(reached(programs, stand)), many)
        self.assertEqual(way_to(programs, stand, ALWAYS), [])
        self.assertIsNone(way_to(programs, stand, NEVER))
        ends(programs, stand)

    def test_steps(self):
        for many in range(1, 50):
            plan = steps_plan(many)
            self.assertEqual(len(reached(plan[0], first_stand(plan))), many)

    def test_two_thousand(self):
        for many in ((20, 10, 10), (2, 2, 5, 10, 10), (25, 40, 2)):
            plan = steps_plan(*many)
            self.told(plan[0], first_stand(plan), 2000)
            self.assertEqual(len(ends(plan[0], first_stand(plan))), 1)

    def test_two_thousand_and_one(self):
        for many in ((3, 23, 29), (29, 3, 23)):
            plan = steps_plan(*many)
            self.refused(plan[0], first_stand(plan))

    def test_more(self):
        for many in ((2, 7, 11, 13), (49, 49, 49)):
            plan = steps_plan(*many)
            self.refused(plan[0], first_stand(plan))

    def test_from_where_it_is_asked(self):
        """From the first stand 2,001 are come to, from the next one fewer."""
        plan = steps_plan(3, 23, 29)
        stand = first_stand(plan)
        self.refused(plan[0], stand)
        self.told(plan[0], moved(plan[0], stand, 0), 2 * 23 * 29)
        self.told(plan[0], moved(plan[0], stand, 1), 3 * 22 * 29)

    def test_by_the_clock(self):
        """Twenty ages and one: each place of a hand is come to with each of them."""
        plan = steps_plan(5, 19)
        self.told(plan[0], (first_stand(plan)[0], notes_of("a @20")), 5 * 19 * 21)
        plan = steps_plan(4, 24)
        self.refused(plan[0], (first_stand(plan)[0], notes_of("a @20")))
        self.told(plan[0], (first_stand(plan)[0], notes_of("a @19")), 4 * 24 * 20)

    def test_boards_without_bound(self):
        for text in ("hand; block; lay a; go >0", "hand; block; lay a @1; go >0", "note a; hand; block; lay a; go >0",
                     "note a; hand; block; read a; lay b @20; go >0; hand; block; take b; go >0; hand; block",
                     "note n 0; hand; block; take n ?x; lay n +x; lay a; go >0"):
            plan = plan_of(text)
            self.refused(plan[0], first_stand(plan))

    def test_a_board_that_stays_small(self):
        plan = plan_of("note n 0; hand; block; take n ?x; lay n +x; go >0; hand; block; read n 99")
        self.told(plan[0], first_stand(plan), 600)


class LongWayTest(unittest.TestCase):
    def test_what_was_told_is_handed_in_again(self):
        programs, notes = COUNTING
        stand = first_stand(COUNTING)
        stands = reached(programs, stand)
        way = way_to(programs, stand, ("ended", 0))
        self.assertGreater(len(way), 1000)
        self.assertEqual(way, [0] * len(way))
        self.assertEqual(len(stands), len(way) + 1)
        self.assertEqual(woven(programs, stand, way), stands[-1])
        self.assertEqual(ends(programs, stand), [stands[-1]])
        log = log_of(COUNTING, way)
        self.assertEqual(len(log), len(way))
        self.assertIs(lets_log(COUNTING, log), True)
        self.assertEqual(lying(log, 1, len(log)), [])
        self.assertTrue(all([gone is not None for laid, gone in lives(log, 1)]))


class WholeTest(unittest.TestCase):
    def test_every_stand_of_every_weaving(self):
        """All weavings of up to four moves: what they lead to is told, and nothing else among the first."""
        for programs, stand in small_ones(141, 60):
            movers = range(len(programs) + 1)
            led = {stand}
            for weaving in itertools.product(movers, repeat=4):
                try:
                    woven(programs, stand, weaving)
                    led |= {woven(programs, stand, weaving[:k]) for k in range(1, 5)}
                except NotReady as error:
                    led |= {woven(programs, stand, weaving[:k]) for k in range(error.place + 1)}
            told = reached(programs, stand)
            self.assertEqual(set(told[:len(led)]), led)


if __name__ == "__main__":
    unittest.main()
