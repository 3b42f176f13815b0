import copy
import random
import unittest

from helper import Board, made_plans, plain_things, plan_of, spoiled
from noteboard.errors import NoLine, NoRow, NotReady, TooMany
from noteboard.logs import lets_log, lives, log_of, lying
from noteboard.moving import gets, moved, ready
from noteboard.stands import first_stand
from noteboard.weaving import by_turns, woven

# This weaving has each kind of row, a look that got none, notes that go by the clock and by a taking.
LOG_PLAN = plan_of("note a; note b 1 @2; note b 2 @1; note b 3 @1; "
                   "hand; block; lay c @2; take b ?n; lay d +n; go >1; "
                   "block; read ?x; look z >2; block; same 1 2 >1; "
                   "hand; block; look b ?n >0; take c")
LOG_MOVERS = [1, 0, 2, 0, 0, 1, 0, 0, 0, 0, 2, 2, 0]
LOG = [("looks", 1, 1), ("lays", 0, 4, (("c",), 2)), ("clock", (2, 3)), ("takes", 0, 1),
       ("lays", 0, 5, (("d", 2), None)), ("takes", 1, 4), ("goes", 0), ("reads", 0, 0), ("looks", 0, None),
       ("goes", 0), ("clock", ()), ("clock", ()), ("reads", 0, 0)]


def any_movers(source, plan, many):
    stand = first_stand(plan)
    movers = []
    for _ in range(many):
        movers.append(source.choice(ready(plan[0], stand) * 3 + [len(plan[0])]))
        stand = moved(plan[0], stand, movers[-1])
    return movers


def some_weavings(seed, many, moves):
    source = random.Random(seed)
    for plan in made_plans(seed, many):
        yield plan, any_movers(source, plan, moves)


class LogOfTest(unittest.TestCase):
    def check(self, plan, movers, told):
        for kind in (list, tuple):
            given = kind(movers)
            kept = copy.deepcopy((plan, given))
            with self.subTest(plan=plan, movers=given):
                log = log_of(plan, given)
                self.assertEqual(repr(log), repr(told))
                log.append(None)
                self.assertEqual(repr(log_of(plan, given)), repr(told))
                self.assertEqual(repr((plan, given)), repr(kept))

    def test_none(self):
        for plan in made_plans(50, 20):
            self.check(plan, [], [])

    def test_each_kind_of_row(self):
        self.check(LOG_PLAN, LOG_MOVERS, LOG)
        for k in range(len(LOG)):
            self.check(LOG_PLAN, LOG_MOVERS[:k], LOG[:k])

    def test_a_look_that_got_none(self):
        plan = plan_of("note a; hand; block; look b >1; block; look a >0; look ? >0; look 9 >1")
        rows = [("looks", 0, None), ("looks", 0, 0), ("looks", 0, 0), ("looks", 0, None)]
        self.check(plan, [0, 0, 0, 0], rows)

    def test_same_and_go(self):
        plan = plan_of("hand; block; same 1 1 >0; same a b >1; block; go >0")
        self.check(plan, [0] * 4, [("goes", 0)] * 4)

    def test_numbers_of_what_is_laid(self):
        plan = plan_of("note z; note z; hand; block; lay a; lay b 1 @20; take a; lay a @1; lay a; take a")
        rows = [("lays", 0, 2, (("a",), None)), ("lays", 0, 3, (("b", 1), 20)), ("takes", 0, 2),
                ("lays", 0, 4, (("a",), 1)), ("clock", (4,)), ("lays", 0, 5, (("a",), None)), ("takes", 0, 5)]
        self.check(plan, [0, 0, 0, 0, 1, 0, 0], rows)
        rows[4:] = [("lays", 0, 5, (("a",), None)), ("takes", 0, 4)]
        self.check(plan, [0] * 6, rows)

    def test_numbers_of_several_hands(self):
        plan = plan_of("hand; block; lay a; go >0; hand; block; lay a; go >0; hand; block; take a; go >0")
        self.check(plan, [1, 0, 2, 0, 0, 1, 2, 2, 1, 3],
                   [("lays", 1, 0, (("a",), None)), ("lays", 0, 1, (("a",), None)), ("takes", 2, 0), ("goes", 0),
                    ("lays", 0, 2, (("a",), None)), ("goes", 1), ("goes", 2), ("takes", 2, 1),
                    ("lays", 1, 3, (("a",), None)), ("clock", ())])

    def test_gone_by_the_clock(self):
        plan = plan_of("note a @1; note b; note c @2; note d @1; note e @3; note f @2")
        self.check(plan, [0] * 4, [("clock", (0, 3)), ("clock", (2, 5)), ("clock", (4,)), ("clock", ())])

    def test_like_notes_by_their_numbers(self):
        plan = plan_of("note a; note a; note a @1; hand; block; take a; read a; take a; read a")
        self.check(plan, [0] * 4, [("takes", 0, 0), ("reads", 0, 1), ("takes", 0, 1), ("reads", 0, 2)])

    def test_as_on_a_second_board(self):
        seen = set()
        for plan, movers in some_weavings(51, 200, 14):
            board = Board(plan[0], first_stand(plan))
            told = [board.move(mover) for mover in movers]
            seen |= {row[0] for row in told}
            self.check(plan, movers, told)
        self.assertEqual(seen, {"lays", "takes", "reads", "looks", "goes", "clock"})

    def refused(self, plan, movers, place):
        for kind in (list, tuple):
            with self.subTest(movers=repr(movers)[:200]):
                with self.assertRaises(NotReady) as caught:
                    log_of(plan, kind(movers))
                self.assertEqual(caught.exception.place, place)
                self.assertIs(caught.exception.__class__, NotReady)
                self.assertNotIsInstance(caught.exception, (NoLine, TooMany, NoRow))

    def test_movers_that_are_none(self):
        for thing in plain_things() + [-1, 3, "0", (0,), [0], True, False, None]:
            self.refused(LOG_PLAN, [thing], 0)
            self.refused(LOG_PLAN, LOG_MOVERS[:5] + [thing] + LOG_MOVERS, 5)
            self.refused(LOG_PLAN, LOG_MOVERS + [thing], len(LOG))
        self.refused(plan_of("hand; block; take a"), [1, 1, 0], 2)
        self.refused(plan_of("hand; block; lay a"), [0, 1, 0], 2)
        self.refused(plan_of(""), [0, 1], 1)


def is_log(plan, thing):
    """Whether it is a log, by the second board: the movers that it tells move there."""
    if not isinstance(thing, list) or not all([isinstance(row, tuple) and len(row) > 1 for row in thing]):
        return False
    board = Board(plan[0], first_stand(plan))
    log = []
    for row in thing:
        mover = len(plan[0]) if row[0] == "clock" else row[1]
        if repr(mover) not in [repr(k) for k in range(len(plan[0]) + 1)] or not board.is_ready(mover):
            return False
        log.append(board.move(mover))
    return repr(log) == repr(thing)


def bent_rows(row):
    """The row, at one place another one."""
    yield from spoiled(row)
    yield row + (None,)
    yield row[:-1]
    yield row[:1]
    yield ()
    for head in ("lays", "takes", "reads", "looks", "goes", "clock", "move"):
        yield (head,) + row[1:]
        yield (head, 0)
        yield (head, ())
        yield (head, 0, None)
        yield (head, 1, 0)
    for k, part in enumerate(row[1:], 1):
        for other in range(-1, 8):
            yield row[:k] + (other,) + row[k + 1:]
        for other in (None, (), (0,), (1, 2), (3, 2), (2,), (2, 2, 3), (True,), (("c",), 1), (("c",), None),
                      (("d",), 2), (("d", 2), 20), (("d", True), None), (["d", 2], None), (("d", "b"), None), "c"):
            yield row[:k] + (other,) + row[k + 1:]


def bent_logs(log):
    yield tuple(log)
    for k, row in enumerate(log):
        yield log[:k] + log[k + 1:]
        yield log[:k + 1] + log[k:]
        yield log[:k] + [list(row)] + log[k + 1:]
        for j in range(k):
            yield log[:j] + [row] + log[j + 1:k] + [log[j]] + log[k + 1:]
        for other in bent_rows(row):
            yield log[:k] + [other] + log[k + 1:]


class LetsLogTest(unittest.TestCase):
    def check(self, plan, thing, told):
        kept = copy.deepcopy((plan, thing))
        with self.subTest(plan=plan, thing=repr(thing)[:500]):
            self.assertIs(lets_log(plan, thing), told)
            self.assertEqual(repr((plan, thing)), repr(kept))

    def test_logs(self):
        for k in range(len(LOG) + 1):
            self.check(LOG_PLAN, LOG[:k], True)
        for plan, movers in some_weavings(61, 100, 14):
            self.check(plan, log_of(plan, movers), True)
        self.check(plan_of(""), [], True)
        self.check(plan_of(""), [("clock", ())] * 3, True)

    def test_long_ones(self):
        plan = plan_of("hand; block; lay a @3; take a; go >0")
        log = log_of(plan, [0, 0, 1, 0] * 500)
        self.assertEqual(len(log), 2000)
        self.check(plan, log, True)
        self.check(plan, log[:-1] + [("goes", 1)], False)
        self.check(plan, log + log, False)

    def test_things_of_any_kind(self):
        for plan in (LOG_PLAN, plan_of(""), plan_of("note a @1; hand; block; take a")):
            for thing in plain_things():
                self.check(plan, thing, thing == [] and isinstance(thing, list))
                self.check(plan, [thing], False)
                self.check(plan, [("clock", thing)], plan == plan_of("") and thing == () and isinstance(thing, tuple))
                for head in ("lays", "takes", "reads", "looks", "goes"):
                    self.check(plan, [(head, thing)], False)
                    self.check(plan, [(head, thing, 0)], False)
                    self.check(plan, [(head, 0, thing)], False)
                self.check(LOG_PLAN, LOG[:1] + [("lays", 0, 4, thing)], False)
                self.check(LOG_PLAN, LOG[:1] + [("lays", 0, thing, (("c",), 2))], False)

    def test_not_let_by(self):
        """Each of these is bent at one place, and no log of another weaving either."""
        places = {
            "left out": LOG[:1] + LOG[2:], "doubled": LOG[:2] + LOG[1:],
            "turned about": LOG[:3] + [LOG[4], LOG[3]] + LOG[5:],
            "another hand": [("looks", 0, 1)] + LOG[1:], "another number": [("looks", 1, 2)] + LOG[1:],
            "the number of one laid": LOG[:1] + [("lays", 0, 5, (("c",), 2))] + LOG[2:],
            "another note": LOG[:1] + [("lays", 0, 4, (("d",), 2))] + LOG[2:],
            "another age": LOG[:1] + [("lays", 0, 4, (("c",), None))] + LOG[2:],
            "another word": LOG[:3] + [("reads", 0, 1)] + LOG[4:],
            "not the first that fits": LOG[:2] + [("takes", 0, 2)], "one that is gone": LOG[:3] + [("clock", (2, 3))],
            "none where one is": [("looks", 1, None)], "one where none is": LOG[:8] + [("looks", 0, 0)],
            "not told gone": LOG[:2] + [("clock", (2,))], "told gone": LOG[:2] + [("clock", (1, 2, 3))],
            "gone, falling": LOG[:2] + [("clock", (3, 2))], "gone twice": LOG[:2] + [("clock", (2, 2, 3))],
            "a list for gone": LOG[:2] + [("clock", [2, 3])], "a truth for a hand": [("looks", True, 1)],
            "a truth for a number": [("looks", 1, True)], "a truth for a hand that goes": LOG[:6] + [("goes", False)],
            "a tuple": tuple(LOG), "a list for a row": [list(LOG[0])], "the clock as a hand": [("clock", 2, ())],
            "a hand's word for the clock": [("goes", 2)], "no row": LOG[:5] + [None], "an empty row": LOG[:5] + [()],
            "a list within": LOG[:1] + [("lays", 0, 4, (["c"], 2))],
            "a list for a note": LOG[:1] + [("lays", 0, 4, [("c",), 2])],
        }
        for name, thing in places.items():
            with self.subTest(name=name):
                self.assertIs(lets_log(LOG_PLAN, thing), False)
                self.assertIs(is_log(LOG_PLAN, thing), False)

    def test_bent_at_each_place(self):
        many = 0
        for thing in bent_logs(LOG):
            many += not is_log(LOG_PLAN, thing)
            self.check(LOG_PLAN, thing, is_log(LOG_PLAN, thing))
        self.assertGreater(many, 1000)

    def test_bent_logs_of_many_plans(self):
        for plan, movers in some_weavings(62, 25, 6):
            for thing in bent_logs(log_of(plan, movers)):
                self.check(plan, thing, is_log(plan, thing))

    def test_of_another_plan(self):
        for (plan, movers), (other, more) in zip(some_weavings(63, 60, 8), some_weavings(64, 60, 8)):
            log = log_of(plan, movers)
            self.check(other, log, is_log(other, log))
        self.check(plan_of("note b; note a"), [("clock", ())], True)
        self.check(plan_of("note b; note a @1"), [("clock", ())], False)
        self.check(plan_of("note b; note a @1"), [("clock", (1,))], True)


class LivesTest(unittest.TestCase):
    def check(self, log, many, told):
        kept = copy.deepcopy(log)
        with self.subTest(log=log):
            first = lives(log, many)
            self.assertEqual(repr(first), repr(told))
            first.append(None)
            self.assertEqual(repr(lives(log, many)), repr(told))
            self.assertEqual(repr(log), repr(kept))

    def test_none(self):
        self.check([], 0, [])
        self.check([], 3, [(None, None)] * 3)
        stays = [("clock", ()), ("goes", 0), ("looks", 0, None), ("looks", 0, 1), ("reads", 1, 0)]
        self.check(stays, 2, [(None, None)] * 2)

    def test_of_each_kind_of_row(self):
        self.check(LOG, 4, [(None, None), (None, 3), (None, 2), (None, 2), (1, 5), (4, None)])
        self.check(LOG[:5], 4, [(None, None), (None, 3), (None, 2), (None, 2), (1, None), (4, None)])
        self.check(LOG[:2], 4, [(None, None)] * 4 + [(1, None)])

    def test_of_the_first_row(self):
        self.check([("takes", 0, 0)], 2, [(None, 0), (None, None)])
        self.check([("clock", (0, 1))], 2, [(None, 0), (None, 0)])
        self.check([("lays", 0, 0, (("a",), None))], 0, [(0, None)])

    def test_of_many_weavings(self):
        for plan, movers in some_weavings(71, 150, 14):
            log = log_of(plan, movers)
            told = [[None, None] for note in plan[1]]
            stand = first_stand(plan)
            lie = list(range(len(told)))
            for k, mover in enumerate(movers):
                before = len(stand[1])
                place = None if mover == len(plan[0]) else gets(plan[0], stand, mover)
                ages = [age for row, age in stand[1]]
                stand = moved(plan[0], stand, mover)
                went = [number for number, age in zip(lie, ages) if mover == len(plan[0]) and age == 1]
                if place is not None and len(stand[1]) < before:
                    went = [lie[place]]
                for number in went:
                    told[number][1] = k
                lie = [number for number in lie if number not in went]
                if len(stand[1]) > len(lie):
                    lie.append(len(told))
                    told.append([k, None])
            self.check(log, len(plan[1]), [tuple(life) for life in told])

    def test_laid_once_and_gone_once(self):
        for plan, movers in some_weavings(72, 150, 14):
            log = log_of(plan, movers)
            laid = [row[2] for row in log if row[0] == "lays"]
            went = [row[2] for row in log if row[0] == "takes"]
            went += [number for row in log if row[0] == "clock" for number in row[1]]
            self.assertEqual(laid, list(range(len(plan[1]), len(plan[1]) + len(laid))))
            self.assertEqual(len(set(went)), len(went))
            told = lives(log, len(plan[1]))
            self.assertEqual(len(told), len(plan[1]) + len(laid))
            self.assertEqual(sorted(went), [number for number, life in enumerate(told) if life[1] is not None])
            for start, end in told[len(plan[1]):]:
                self.assertTrue(end is None or start < end)


class LyingTest(unittest.TestCase):
    def check(self, log, many, k, told):
        kept = copy.deepcopy(log)
        with self.subTest(log=log, k=k):
            first = lying(log, many, k)
            self.assertEqual(repr(first), repr(told))
            first.append(None)
            self.assertEqual(repr(lying(log, many, k)), repr(told))
            self.assertEqual(repr(log), repr(kept))

    def test_none_and_all(self):
        self.check([], 0, 0, [])
        self.check([], 3, 0, [0, 1, 2])
        self.check(LOG, 4, 0, [0, 1, 2, 3])
        self.check(LOG, 4, len(LOG), [0, 5])

    def test_behind_each_row(self):
        told = [[0, 1, 2, 3], [0, 1, 2, 3], [0, 1, 2, 3, 4], [0, 1, 4], [0, 4], [0, 4, 5], [0, 5]]
        for k, numbers in enumerate(told):
            self.check(LOG, 4, k, numbers)
        for k in range(len(told), len(LOG) + 1):
            self.check(LOG, 4, k, [0, 5])

    def test_one_for_one_the_notes_of_the_stand(self):
        for plan, movers in some_weavings(81, 120, 14):
            log = log_of(plan, movers)
            rows = [row for row, age in plan[1]] + [row[3][0] for row in log if row[0] == "lays"]
            for k in range(len(movers) + 1):
                stand = woven(plan[0], first_stand(plan), movers[:k])
                numbers = lying(log, len(plan[1]), k)
                self.assertEqual(numbers, sorted(numbers))
                self.assertEqual([rows[number] for number in numbers], [row for row, age in stand[1]])


class WholeTest(unittest.TestCase):
    def test_who_gets_a_note_gets_the_first_that_fits(self):
        """By the log alone: what was got lay there then, and none of those that lay ahead of it was got by it."""
        for plan, movers in some_weavings(91, 150, 14):
            log = log_of(plan, movers)
            for k, row in enumerate(log):
                stand = woven(plan[0], first_stand(plan), movers[:k])
                numbers = lying(log, len(plan[1]), k)
                if row[0] in ("takes", "reads", "looks"):
                    place = gets(plan[0], stand, row[1])
                    self.assertEqual(row[2], None if place is None else numbers[place])

    def test_by_turns(self):
        for plan in made_plans(92, 60):
            log = log_of(plan, by_turns(plan[0], first_stand(plan), 60))
            self.assertIs(lets_log(plan, log), True)


if __name__ == "__main__":
    unittest.main()
