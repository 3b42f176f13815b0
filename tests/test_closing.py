import copy
import itertools
import random
import unittest

from helper import (ALWAYS, Board, COUNTING, NEVER, at, is_seen, leads, made_sight, made_stand, notes_of,
                    plain_things, plan_of, sight_of, small_ones, spoiled, steps_plan)
from noteboard.closing import lets_closed, lets_never
from noteboard.errors import NotReady
from noteboard.moving import moved, ready
from noteboard.reaching import reached, way_to
from noteboard.sights import sees
from noteboard.stands import fault_of, first_stand
from noteboard.weaving import woven

# The hand takes a note, if it is there in time, and lays one that runs out.
TAKER = plan_of("hand; block; take a ?n; lay b =n @1")[0]
START = ((at(0, 0),), notes_of("a 1 @2"))
# All that are come to from there.
TAKEN = ((at(0, 1, n=1),), ())
LAID = ((at(0, 2, n=1),), notes_of("b 1 @1"))
OVER = ((at(0, 2, n=1),), ())
OLDER = ((at(0, 0),), notes_of("a 1 @1"))
LATE = ((at(0, 0),), ())
CLOSED = [START, TAKEN, LAID, OVER, OLDER, LATE]


def is_closed(programs, stand, stands):
    """Of right stands, by the second board."""
    return stand in stands and all([behind in stands for one in set(stands) for behind in leads(programs, one)])


def turned(source, stands):
    """The stands in another order, some of them twice."""
    told = stands + source.choices(stands, k=source.randint(0, 5))
    source.shuffle(told)
    return told


class ClosedTest(unittest.TestCase):
    def check(self, programs, stand, thing, told):
        kept = copy.deepcopy((programs, stand, thing))
        with self.subTest(stand=stand, thing=repr(thing)[:400]):
            self.assertIs(lets_closed(programs, stand, thing), told)
            self.assertEqual(repr((programs, stand, thing)), repr(kept))

    def test_the_stands_come_to(self):
        self.assertEqual(set(CLOSED), set(reached(TAKER, START)))
        self.check(TAKER, START, CLOSED, True)
        self.check((), ((), ()), [((), ())], True)
        self.check((), ((), notes_of("a")), [((), notes_of("a"))], True)
        for text in ("hand; block; take a", "hand; block; go >0", "hand; block"):
            self.check(plan_of(text)[0], ((at(0, 0),), notes_of("b")), [((at(0, 0),), notes_of("b"))], True)

    def test_in_any_order_and_twice(self):
        for stands in itertools.permutations(CLOSED):
            self.check(TAKER, START, list(stands), True)
        for one in CLOSED:
            self.check(TAKER, START, CLOSED + [one], True)
            self.check(TAKER, START, [one, one] + CLOSED, True)
        self.check(TAKER, START, CLOSED * 3, True)

    def test_any_one_left_out(self):
        for one in CLOSED:
            rest = [other for other in CLOSED if other != one]
            self.check(TAKER, START, rest, False)
            self.check(TAKER, START, rest * 2, False)
        self.check(TAKER, START, [], False)
        self.check(TAKER, START, [START], False)

    def test_the_clock_leads_too(self):
        programs = plan_of("hand; block")[0]
        stands = [((at(0, 0),), notes_of(text)) for text in ("a @3; b", "a @2; b", "a @1; b", "b")]
        self.check(programs, stands[0], stands, True)
        for k in range(4):
            self.check(programs, stands[0], stands[:k], False)
        self.check((), ((), notes_of("a @1")), [((), notes_of("a @1"))], False)
        self.check((), ((), notes_of("a @1")), [((), notes_of("a @1")), ((), ())], True)

    def test_each_ready_hand_leads(self):
        programs = plan_of("hand; block; lay a; hand; block; lay b")[0]
        stand = ((at(0, 0), at(0, 0)), ())
        stands = reached(programs, stand)
        self.check(programs, stand, stands, True)
        for one in stands:
            self.check(programs, stand, [other for other in stands if other != one], False)

    def test_the_stand_itself(self):
        for one in CLOSED:
            self.check(TAKER, one, CLOSED, True)
        for one in CLOSED[1:]:
            stands = reached(TAKER, one)
            self.check(TAKER, one, stands, True)
            self.check(TAKER, START, stands, False)
        for other in (((at(0, 0),), notes_of("a 1")), ((at(0, 0),), notes_of("a 2 @2")), ((at(0, 1, n=2),), ()),
                      ((at(0, 0),), notes_of("a 1 @2; a 1 @2"))):
            self.check(TAKER, other, CLOSED, False)
            self.check(TAKER, other, reached(TAKER, other), True)
            self.check(TAKER, START, reached(TAKER, other), False)
            self.check(TAKER, other, CLOSED + reached(TAKER, other), True)
            self.check(TAKER, START, CLOSED + reached(TAKER, other), True)

    def test_others_that_no_weaving_leads_to(self):
        """Such as are right and lead to such as are there are allowed, and only such."""
        elder = ((at(0, 0),), notes_of("a 1 @3"))
        self.check(TAKER, START, CLOSED + [elder], True)
        self.check(TAKER, START, [elder] + CLOSED, True)
        eldest = ((at(0, 0),), notes_of("a 1 @4"))
        self.check(TAKER, START, CLOSED + [eldest, elder], True)
        self.check(TAKER, START, CLOSED + [eldest], False)
        ended = ((at(0, 2, n="z"),), notes_of("z"))
        self.check(TAKER, START, CLOSED + [ended], True)
        self.check(TAKER, START, [ended], False)
        self.check(TAKER, START, CLOSED + [((at(0, 1, n="z"),), notes_of("z"))], False)

    def test_one_that_is_not_right(self):
        wrong = [((), ()), ((at(0, 0), at(0, 0)), ()), ((at(1, 0),), ()), ((at(0, 3, n=1),), ()), ((at(0, 1),), ()),
                 ((at(0, 0, n=1),), ()), ((at(0, 2, m=1),), ()), ((at(0, 2, n=100),), ()),
                 ((at(0, 2, n=1),), (("a", 1),)),
                 ((at(0, 2, n=1),), ((("a",), 21),)), None, (), at(0, 0), CLOSED, [START], list(START)]
        for thing in wrong + plain_things():
            self.check(TAKER, START, CLOSED + [thing], False)
            self.check(TAKER, START, [thing] + CLOSED, False)

    def test_kinds_within(self):
        for k, one in enumerate(CLOSED):
            for other in spoiled(one):
                self.check(TAKER, START, CLOSED[:k] + [other] + CLOSED[k + 1:], False)
                self.check(TAKER, START, CLOSED + [other], False)
        with_truth = ((at(0, True, n=1),), ())
        self.assertEqual(with_truth, TAKEN)
        self.check(TAKER, START, CLOSED[:1] + [with_truth] + CLOSED[2:], False)
        with_truth = ((at(0, 0),), ((("a", True), 2),))
        self.assertEqual(with_truth, START)
        self.check(TAKER, START, [with_truth] + CLOSED[1:], False)

    def test_things_of_every_kind(self):
        for thing in plain_things() + [tuple(CLOSED), START, (CLOSED,), [CLOSED], ("never", CLOSED),
                                       [CLOSED[0], CLOSED[1:]], True, 1, "stands"]:
            self.check(TAKER, START, thing, False)
        self.check((), ((), ()), (((), ()),), False)
        self.check((), ((), ()), [[(), ()]], False)
        self.check((), ((), ()), ((), ()), False)

    def test_two_thousand(self):
        plan = steps_plan(20, 10, 10)
        stand = first_stand(plan)
        stands = reached(plan[0], stand)
        self.assertEqual(len(stands), 2000)
        self.check(plan[0], stand, stands, True)
        self.check(plan[0], stand, stands[::-1], True)
        for k in (0, 1, 777, 1999):
            self.check(plan[0], stand, stands[:k] + stands[k + 1:], False)

    def test_boards_that_grow_have_none(self):
        programs = plan_of("hand; block; lay a; go >0")[0]
        stand = ((at(0, 0),), ())
        stands = [stand]
        for many in range(20):
            stands.append(moved(programs, stands[-1], 0))
            self.check(programs, stand, list(stands), False)

    def test_what_stays_small_though_it_never_ends(self):
        programs = plan_of("hand; block; take n ?x; lay n +x; go >0")[0]
        stands = reached(programs, ((at(0, 0),), notes_of("n 97")))
        self.assertEqual(len(stands), 300)
        for one in stands[::50]:
            self.check(programs, one, stands, True)

    def test_as_told_once_more(self):
        """Lists of any of the stands come to, and others: just those that the second board finds closed."""
        source = random.Random(201)
        seen = []
        for programs, stand in small_ones(201, 150):
            stands = reached(programs, stand)
            other = made_stand(source, programs, 2)
            for thing in (turned(source, stands), source.sample(stands, source.randint(1, len(stands))),
                          turned(source, stands + [other]), stands[1:] + leads(programs, stands[-1])):
                self.assertIs(fault_of(programs, other), None)
                seen.append(is_closed(programs, stand, thing))
                self.check(programs, stand, thing, seen[-1])
        self.assertGreater(min(seen.count(True), seen.count(False)), 150)

    def test_every_stand_of_every_weaving(self):
        """What is let by has each stand of a long weaving, whichever."""
        source = random.Random(202)
        for programs, stand in small_ones(202, 100):
            stands = turned(source, reached(programs, stand))
            self.check(programs, stand, stands, True)
            for _ in range(60):
                stand = moved(programs, stand, source.choice(ready(programs, stand) + [len(programs)]))
                self.assertIn(stand, stands)


class PaperTest(unittest.TestCase):
    def check(self, programs, stand, sight, thing, told):
        kept = copy.deepcopy((programs, stand, sight, thing))
        with self.subTest(stand=stand, sight=sight, thing=repr(thing)[:400]):
            self.assertIs(lets_never(programs, stand, sight, thing), told)
            self.assertEqual(repr((programs, stand, sight, thing)), repr(kept))

    def test_never(self):
        for sight in (NEVER, sight_of("c"), sight_of("a 2"), sight_of("a ?", 2), ("not", ALWAYS),
                      ("all", (sight_of("a ?"), sight_of("b ?"))), ("all", (("ended", 0), sight_of("a ?"))),
                      ("not", ("some", (("at", 0, 0, 0), ("at", 0, 0, 1), ("ended", 0))))):
            self.check(TAKER, START, sight, ("never", CLOSED), True)
            self.check(TAKER, START, sight, ("never", CLOSED[::-1] * 2), True)
            for one in CLOSED:
                self.check(TAKER, START, sight, ("never", [other for other in CLOSED if other != one]), False)
                self.check(TAKER, one, sight, ("never", CLOSED), True)

    def test_never_but_one_sees_it(self):
        for sight in (ALWAYS, sight_of("a 1"), sight_of("b 1"), ("ended", 0), ("at", 0, 0, 1), ("at", 0, 0, 0),
                      ("not", NEVER), ("not", sight_of("a 1")), ("some", (NEVER, ("ended", 0)))):
            self.check(TAKER, START, sight, ("never", CLOSED), False)

    def test_never_but_one_that_no_weaving_leads_to_sees_it(self):
        elder = ((at(0, 0),), notes_of("a 1 @3"))
        ended = ((at(0, 2, n=1),), notes_of("z"))
        self.check(TAKER, START, sight_of("z"), ("never", CLOSED), True)
        self.check(TAKER, START, sight_of("z"), ("never", CLOSED + [elder]), True)
        self.check(TAKER, START, sight_of("z"), ("never", CLOSED + [ended]), False)
        self.check(TAKER, START, sight_of("z"), ("never", [ended] + CLOSED), False)

    def test_never_of_no_closed_list(self):
        for thing in ([], [START], tuple(CLOSED), None, True, START, CLOSED + [None], CLOSED + [list(START)], [CLOSED],
                      "never", ((at(0, True, n=1),), ())):
            self.check(TAKER, START, NEVER, ("never", thing), False)
        for thing in plain_things():
            self.check(TAKER, START, NEVER, ("never", thing), False)
            self.check(TAKER, START, NEVER, ("never", CLOSED + [thing]), False)
        for one in CLOSED:
            for other in spoiled(one):
                self.check(TAKER, START, NEVER, ("never", CLOSED + [other]), False)

    def test_never_of_another_stand(self):
        other = ((at(0, 0),), notes_of("a 1"))
        stands = reached(TAKER, other)
        self.check(TAKER, other, NEVER, ("never", stands), True)
        self.check(TAKER, START, NEVER, ("never", stands), False)
        self.check(TAKER, other, NEVER, ("never", CLOSED), False)
        self.check(TAKER, other, NEVER, ("never", CLOSED + stands), True)

    def test_seen(self):
        for sight, movers in ((ALWAYS, []), (sight_of("a 1"), []), (sight_of("a ?"), [1]), (("at", 0, 0, 1), [0]),
                              (sight_of("b 1"), [0, 0]), (sight_of("b 1"), [1, 0, 0]), (sight_of("b 1"), [0, 1, 1, 0]),
                              (("ended", 0), [1, 0, 1, 1, 1, 0, 1, 1]), (("not", sight_of("a ?")), [1, 1]),
                              (("not", sight_of("a ?")), [0]), (("not", ("ended", 0)), [1, 1, 1, 1, 1]),
                              (("all", (("ended", 0), ("not", sight_of("? ?")))), [0, 0, 1])):
            self.check(TAKER, START, sight, ("seen", movers), True)
            self.check(TAKER, START, ("not", sight), ("seen", movers), False)
            self.check(TAKER, START, sight, ("seen", tuple(movers)), False)

    def test_seen_but_not_there(self):
        """Movers that lead to a stand that doesn't see it, even if one on the way does."""
        for sight, movers in ((NEVER, []), (sight_of("b 1"), []), (sight_of("b 1"), [0]), (sight_of("b 1"), [0, 0, 1]),
                              (sight_of("a 1"), [0]), (sight_of("a 1"), [1, 1]), (("at", 0, 0, 1), [0, 0]),
                              (("not", sight_of("a ?")), [1]), (sight_of("a ?", 2), [])):
            self.check(TAKER, START, sight, ("seen", movers), False)

    def test_seen_but_no_weaving(self):
        for movers in ([2], [-1], [0, 0, 0], [1, 1, 0], [0, 2], [True], [False], [1, False], [None], ["0"], [[0]],
                       [(0,)], [0, None], [[]], [0, 0, 1, 0], [START], [10 ** 59], [1, 0, 0, True]):
            self.check(TAKER, START, ALWAYS, ("seen", movers), False)
        for thing in plain_things():
            self.check(TAKER, START, ALWAYS, ("seen", [thing]), False)
            if thing not in ([], [1]):
                self.check(TAKER, START, ALWAYS, ("seen", thing), False)
        for thing in ((), (0,), 0, None, "0", True, START, CLOSED, ([0],)):
            self.check(TAKER, START, ALWAYS, ("seen", thing), False)

    def test_words_and_lengths(self):
        for sight, right, paper in ((NEVER, "never", CLOSED), (ALWAYS, "seen", [0, 0])):
            self.check(TAKER, START, sight, (right, paper), True)
            for word in ("never", "seen", "Never", "Seen", "never ", "", "closed", "no", None, True, 0, ("never",),
                         ["seen"], "idle", "met"):
                if word != right:
                    self.check(TAKER, START, sight, (word, paper), False)
            for thing in ((right,), (right, paper, paper), (right, paper, None), (paper, right), (paper,),
                          [right, paper],
                          ((right, paper),), [(right, paper)], right, paper, (right, [paper]), (right, (paper,)), ()):
                self.check(TAKER, START, sight, thing, False)
            for thing in plain_things():
                self.check(TAKER, START, sight, thing, False)
                self.check(TAKER, START, sight, (thing, paper), False)

    def test_long_weavings(self):
        stand = first_stand(COUNTING)
        way = way_to(COUNTING[0], stand, ("ended", 0))
        self.check(COUNTING[0], stand, ("ended", 0), ("seen", way), True)
        self.check(COUNTING[0], stand, ("ended", 0), ("seen", way[:-1]), False)
        self.check(COUNTING[0], stand, ("ended", 0), ("seen", way + [1] * 9), True)
        self.check(COUNTING[0], stand, ("ended", 0), ("seen", way + [0]), False)

    def test_boards_that_grow(self):
        programs = plan_of("hand; block; lay a; go >0")[0]
        stand = ((at(0, 0),), ())
        self.check(programs, stand, sight_of("a", 9), ("seen", [0, 0] * 8 + [0]), True)
        self.check(programs, stand, sight_of("a", 9), ("seen", [0, 0] * 8), False)
        self.check(programs, stand, sight_of("b"), ("never", [stand, moved(programs, stand, 0)]), False)

    def test_never_both(self):
        """Of each stand and sight, the closed list and all short weavings: those of one sort at most."""
        source = random.Random(211)
        sorts = []
        for programs, stand in small_ones(211, 60):
            stands = turned(source, reached(programs, stand))
            weavings = [list(movers) for many in range(4)
                        for movers in itertools.product(range(len(programs) + 1), repeat=many)]
            for _ in range(3):
                sight = made_sight(source, programs, 2)
                nevers = lets_never(programs, stand, sight, ("never", stands))
                seens = [lets_never(programs, stand, sight, ("seen", movers)) for movers in weavings]
                self.assertFalse(nevers and True in seens)
                sorts.append((nevers, True in seens))
        self.assertGreater(sorts.count((True, False)), 30)
        self.assertGreater(sorts.count((False, True)), 30)

    def test_as_told_once_more(self):
        source = random.Random(212)
        told = []
        for programs, stand in small_ones(212, 100):
            stands = reached(programs, stand)
            for _ in range(4):
                sight = made_sight(source, programs, 2)
                thing = turned(source, stands + [made_stand(source, programs, 1)] * source.randint(0, 1))
                told.append(is_closed(programs, stand, thing)
                            and not any([is_seen(Board(programs, one), sight) for one in thing]))
                self.check(programs, stand, sight, ("never", thing), told[-1])
                movers = source.choices(range(len(programs) + 1), k=source.randint(0, 4))
                try:
                    seen = is_seen(Board(programs, woven(programs, stand, movers)), sight)
                except NotReady:
                    seen = False
                told.append(seen)
                self.check(programs, stand, sight, ("seen", movers), seen)
                self.check(programs, stand, sight, ("never", movers), False)
        self.assertGreater(min(told.count(True), told.count(False)), 150)

    def test_what_is_shown_never_comes(self):
        source = random.Random(213)
        shown = 0
        for programs, stand in small_ones(213, 60):
            sight = made_sight(source, programs, 2)
            if not lets_never(programs, stand, sight, ("never", reached(programs, stand))):
                continue
            shown += 1
            for _ in range(40):
                self.assertIs(sees(programs, stand, sight), False)
                stand = moved(programs, stand, source.choice(ready(programs, stand) + [len(programs)]))
        self.assertGreater(shown, 20)


if __name__ == "__main__":
    unittest.main()
