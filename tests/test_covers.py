import copy
import itertools
import random
import unittest

from helper import (A, ALWAYS, COUNTING, NEVER, at, counted, counts_of, entry_leads, greatly, is_under, made_entry,
                    made_loops, made_plans, made_sight, made_stand, notes_of, plain_things, plan_of, sight_of,
                    small_ones, spoiled, steps_plan)
from noteboard.covers import cover, cover_never, lets_cover
from noteboard.entries import below, entry_of, entry_sees, is_entry
from noteboard.errors import BoardError, NoLine, NoRow, NotReady, TooMany
from noteboard.moving import moved, ready
from noteboard.reaching import reached
from noteboard.sights import is_plain, sees
from noteboard.stands import first_stand

# A hand that lays without bound: the board has no closed list, but a cover of two entries.
GROWING = plan_of("hand; block; lay a; go >0")[0]
EMPTY = ((at(0, 0),), ())
GROWN = [((at(0, 0),), counts_of("a *")), ((at(0, 1),), counts_of("a *"))]
# One key, two hands that take it in turns, and a third one that lays without bound.
KEYS = plan_of("note key; hand; block; take key; lay in; take in; lay key; go >0; "
               "hand; block; take key; lay in; take in; lay key; go >0; hand; block; lay log; go >0")
# A hand that takes a note, if it is there in time, and lays another one.
TAKER = plan_of("hand; block; take a ?n; lay b =n @1")[0]
TAKERS = ((at(0, 0),), notes_of("a 1; a 1 @2"))
TAKEN = [((at(0, 0),), counts_of("a 1 *2")), ((at(0, 1, n=1),), counts_of("a 1")),
         ((at(0, 2, n=1),), counts_of("a 1; b 1"))]


def entry_by_hand(stand):
    rows = [row for row, age in stand[1]]
    return (stand[0], counted({row: rows.count(row) for row in rows}))


def is_cover(programs, stand, entries):
    """Of right entries, by the second board."""
    wanted = [entry_by_hand(stand)] + [step for entry in entries for step in entry_leads(programs, entry)]
    return all([any([is_under(step, entry) for entry in entries]) for step in wanted])


def grown_list(programs, stand, most=500):
    """As DOC.md 39 tells, entry by entry, with the way to each; None where it has more than so many."""
    told = [entry_by_hand(stand)]
    ways = [told[:]]
    for k in itertools.count():
        if k == len(told):
            return told
        for hands, counts in entry_leads(programs, told[k]):
            for earlier in ways[k]:
                if is_under(earlier, (hands, counts)):
                    few, many = greatly(earlier), greatly((hands, counts))
                    counts = tuple([(row, None if few.get(row, 0) < many[row] else here) for row, here in counts])
            if not any([is_under((hands, counts), entry) for entry in told]):
                told.append((hands, counts))
                ways.append([(hands, counts)] + ways[k])
                if len(told) > most:
                    return None


def ring_hand(many):
    """Lines of a hand that goes round through so many places, at most 48."""
    lines = "hand; block"
    for k in range(many):
        if k and k % 8 == 0:
            lines += "; block"
        lines += "; go >0" if k == many - 1 else f"; go >{k // 8 + 1}" if k % 8 == 7 else "; same 1 1 >0"
    return lines


def greater(source, entry):
    """The entry with one count greater, or any many."""
    having = dict(entry[1])
    row = source.choice(list(having) + [("a",)])
    many = having.get(row, 0)
    having[row] = source.choice((None, None if many is None else many + 1))
    return (entry[0], counted(having))


class LetsCoverTest(unittest.TestCase):
    def check(self, programs, stand, thing, told):
        kept = copy.deepcopy((programs, stand, thing))
        with self.subTest(stand=stand, thing=repr(thing)[:400]):
            self.assertIs(lets_cover(programs, stand, thing), told)
            self.assertEqual(repr((programs, stand, thing)), repr(kept))

    def test_covers(self):
        self.check((), ((), ()), [((), ())], True)
        self.check((), ((), notes_of("a; a @2; b")), [((), counts_of("a *2; b"))], True)
        self.check(GROWING, EMPTY, GROWN, True)
        self.check(TAKER, TAKERS, TAKEN, True)
        for text in ("hand; block; take a", "hand; block; go >0", "hand; block", "hand; block; read b; go >0"):
            programs = plan_of(text)[0]
            stand = ((at(0, 0),), notes_of("b; c"))
            entries = [((at(0, 0),), counts_of("b; c"))]
            self.check(programs, stand, entries + [((at(0, 1),), counts_of("b; c"))] * ("read" in text), True)

    def test_turned_about_and_twice(self):
        for entries in itertools.permutations(TAKEN):
            self.check(TAKER, TAKERS, list(entries), True)
            self.check(TAKER, TAKERS, list(entries) * 2, True)
            for entry in TAKEN:
                self.check(TAKER, TAKERS, list(entries) + [entry], True)
        self.check(GROWING, EMPTY, GROWN[::-1], True)

    def test_any_one_left_out(self):
        for programs, stand, entries in ((GROWING, EMPTY, GROWN), (TAKER, TAKERS, TAKEN)):
            for entry in entries:
                rest = [other for other in entries if other != entry]
                self.check(programs, stand, rest, False)
                self.check(programs, stand, rest * 2, False)
            self.check(programs, stand, [], False)

    def test_stands_that_are_below_one(self):
        for notes, told in (("", True), ("a 1", True), ("a 1 @5; a 1 @20", True), ("a 1; a 1; a 1", False),
                            ("a 2", False), ("b 1", False), ("a 1; b 1", False)):
            self.check(TAKER, ((at(0, 0),), notes_of(notes)), TAKEN, told)
        for hand, notes, told in ((at(0, 1, n=1), "a 1", True), (at(0, 1, n=1), "a 1; a 1", False),
                                  (at(0, 1, n=2), "", False), (at(0, 2, n=1), "b 1 @3", True),
                                  (at(0, 2, n=1), "b 1; b 1", False), (at(0, 2, n="a"), "", False)):
            self.check(TAKER, ((hand,), notes_of(notes)), TAKEN, told)
        for many in (0, 1, 9, 60):
            self.check(GROWING, ((at(0, 0),), notes_of("a") * many), GROWN, True)
            self.check(GROWING, ((at(0, 1),), notes_of("a @1") * many), GROWN, True)
            self.check(GROWING, ((at(0, 0),), notes_of("a") * many + notes_of("b")), GROWN, False)

    def test_greater_counts(self):
        """A greater count is let by where the steps of it are under one of the list all the same."""
        self.check(TAKER, TAKERS, TAKEN[:2] + [(TAKEN[2][0], counts_of("a 1 *7; b 1; z *"))], True)
        self.check(TAKER, TAKERS, TAKEN[:1] + [(TAKEN[1][0], counts_of("a 1 *2"))] + TAKEN[2:], False)
        self.check(TAKER, TAKERS, [(TAKEN[0][0], counts_of("a 1 *3"))] + TAKEN[1:], False)
        greatest = [(hands, counts_of("a 1 *; b 1 *")) for hands, counts in TAKEN]
        self.check(TAKER, TAKERS, greatest, True)
        self.check(TAKER, TAKERS, [TAKEN[0]] + greatest[1:], True)
        self.check(TAKER, TAKERS, TAKEN[:1] + greatest[1:2] + TAKEN[2:], False)
        self.check(TAKER, TAKERS, TAKEN + greatest, True)
        self.check(TAKER, TAKERS, TAKEN + greatest[1:], True)
        self.check(TAKER, TAKERS, TAKEN + greatest[:1], False)
        self.check(GROWING, EMPTY, [(hands, counts_of("a *; b *")) for hands, counts in GROWN], True)
        self.check(GROWING, EMPTY, GROWN + [(hands, counts_of("a *; b *5")) for hands, counts in GROWN], True)
        self.check(GROWING, EMPTY, GROWN + [(GROWN[0][0], counts_of("a *; b *5"))], False)

    def test_no_number_covers_what_grows(self):
        for many in (1, 60, 10 ** 9, 10 ** 59):
            entries = [(hands, ((("a",), many),)) for hands, counts in GROWN]
            self.check(GROWING, EMPTY, entries, False)
            self.check(GROWING, EMPTY, entries + GROWN, True)
            self.check(GROWING, EMPTY, [entries[0], GROWN[1]], False)
            self.check(GROWING, EMPTY, [GROWN[0], entries[1]], False)

    def test_entries_no_weaving_leads_to(self):
        other = ((at(0, 1, n=2),), counts_of("z"))
        self.check(TAKER, TAKERS, TAKEN + [other], False)
        self.check(TAKER, TAKERS, TAKEN + [other, ((at(0, 2, n=2),), counts_of("b 2; z"))], True)
        self.check(TAKER, TAKERS, TAKEN + [((at(0, 2, n=3),), counts_of("z *"))], True)
        self.check(TAKER, TAKERS, [((at(0, 2, n=3),), counts_of("z *"))], False)

    def test_a_take_by_any_row_that_fits(self):
        """The first that lies is b, but an entry doesn't tell the order."""
        programs = plan_of("hand; block; take ?n")[0]
        stand = ((at(0, 0),), notes_of("b; a"))
        entries = [entry_of(one) for one in reached(programs, stand)]
        self.check(programs, stand, entries, False)
        self.check(programs, stand, entries + [((at(0, 1, n="a"),), counts_of("b"))], True)

    def test_a_look_may_always_miss(self):
        programs = plan_of("hand; block; look a >1; block; lay b")[0]
        stand = ((at(0, 0),), notes_of("a"))
        entries = [entry_of(stand), ((at(0, 1),), counts_of("a"))]
        self.check(programs, stand, entries, False)
        entries += [((at(1, 0),), counts_of("a")), ((at(1, 1),), counts_of("a; b"))]
        self.check(programs, stand, entries, True)
        self.check(programs, stand, entries[:1] + entries[2:], False)
        self.check(programs, stand, entries[:3], False)

    def test_things_that_are_no_entries(self):
        wrong = [((), ()), (TAKERS[0], [])] + [TAKERS, list(TAKEN[0]), (TAKEN[0][0],), TAKEN, ((at(0, 1),), ()),
                 ((at(0, 0),), ((("a", 1), 0),)), ((at(0, 0),), ((("a", 1), True),)), ((at(0, 3, n=1),), ()),
                 ((at(0, 0),), ((("b",), 1), (("a",), 1))), ((at(0, 0),), ((("a",), 1), (("a",), 1)))]
        self.assertFalse(any([is_entry(TAKER, thing) for thing in wrong]))
        for thing in wrong + plain_things():
            self.check(TAKER, TAKERS, TAKEN + [thing], False)
            self.check(TAKER, TAKERS, [thing] + TAKEN, False)

    def test_kinds_within(self):
        for k, entry in enumerate(TAKEN):
            for other in spoiled(entry):
                self.check(TAKER, TAKERS, TAKEN[:k] + [other] + TAKEN[k + 1:], False)
                self.check(TAKER, TAKERS, TAKEN + [other], False)
        with_truth = ((at(0, 1, n=1),), ((("a", 1), True),))
        self.assertEqual(with_truth, TAKEN[1])
        self.check(TAKER, TAKERS, [TAKEN[0], with_truth, TAKEN[2]], False)

    def test_things_of_every_kind(self):
        for thing in plain_things() + [tuple(TAKEN), TAKEN[0], (TAKEN,), [TAKEN], ("cover", TAKEN), True, 1, "entries"]:
            self.check(TAKER, TAKERS, thing, False)
        self.check((), ((), ()), (((), ()),), False)
        self.check((), ((), ()), [[(), ()]], False)

    def test_the_entries_of_a_closed_list(self):
        """Without takes and looks they are a cover; two thousand of them, too."""
        for many in ((3, 4, 5), (20, 10, 10)):
            plan = steps_plan(*many)
            stand = first_stand(plan)
            entries = [entry_of(one) for one in reached(plan[0], stand)]
            self.check(plan[0], stand, entries, True)
            self.check(plan[0], stand, entries[::-1], True)
            for k in (0, 1, len(entries) // 2, len(entries) - 1):
                self.check(plan[0], stand, entries[:k] + entries[k + 1:], False)

    def test_as_told_once_more(self):
        source = random.Random(401)
        seen = []
        for programs, notes in made_plans(401, 150, (0, 1, 1, 2, 2, 3)) + list(made_loops(402, 80)):
            stand = first_stand((programs, notes))
            entries = grown_list(programs, stand, 60)
            if entries is None:
                continue
            k = source.randrange(len(entries))
            for thing in (entries + [source.choice(entries)], entries[:k] + entries[k + 1:],
                          entries[:k] + [greater(source, entries[k])] + entries[k + 1:],
                          entries + [greater(source, entries[k])], entries + [made_entry(source, programs)],
                          source.sample(entries, source.randint(0, len(entries)))):
                source.shuffle(thing)
                seen.append(is_cover(programs, stand, thing))
                self.check(programs, stand, thing, seen[-1])
                other = (stand[0], made_stand(source, programs, 2)[1])
                self.check(programs, other, thing, is_cover(programs, other, thing))
        self.assertGreater(min(seen.count(True), seen.count(False)), 200)


class CoverNeverTest(unittest.TestCase):
    def check(self, programs, stand, sight, thing, told):
        kept = copy.deepcopy((programs, stand, sight, thing))
        with self.subTest(stand=stand, sight=sight, thing=repr(thing)[:400]):
            self.assertIs(cover_never(programs, stand, sight, thing), told)
            self.assertEqual(repr((programs, stand, sight, thing)), repr(kept))

    def test_shown(self):
        for sight in (NEVER, sight_of("c"), sight_of("a 2"), sight_of("a ?", 3), sight_of("? ?", 3), sight_of("b ?", 2),
                      ("all", (sight_of("a ?", 2), sight_of("b ?"))), ("all", (("ended", 0), sight_of("a ?", 2))),
                      ("some", (NEVER, sight_of("c")))):
            self.check(TAKER, TAKERS, sight, TAKEN, True)
            self.check(TAKER, TAKERS, sight, TAKEN[::-1] * 2, True)
            for k in range(3):
                self.check(TAKER, TAKERS, sight, TAKEN[:k] + TAKEN[k + 1:], False)

    def test_not_shown(self):
        for sight in (ALWAYS, sight_of("a 1"), sight_of("a 1", 2), sight_of("b 1"), sight_of("? ?", 2), ("ended", 0),
                      ("at", 0, 0, 1), ("all", (sight_of("a ?"), sight_of("b ?"))), ("some", (NEVER, ("ended", 0)))):
            self.check(TAKER, TAKERS, sight, TAKEN, False)

    def test_sights_that_are_not_plain(self):
        for sight in (("not", ALWAYS), ("not", ("not", NEVER)), ("all", (NEVER, ("not", A))),
                      ("some", (("not", ALWAYS),))):
            self.assertFalse(any([sees(TAKER, stand, sight) for stand in reached(TAKER, TAKERS)]))
            self.check(TAKER, TAKERS, sight, TAKEN, False)
            self.check((), ((), ()), sight, [((), ())], False)
            for thing in plain_things():
                self.check(TAKER, TAKERS, sight, thing, False)

    def test_boards_that_grow(self):
        for sight in (sight_of("b"), sight_of("a ?"), sight_of("#"), ("ended", 0), NEVER):
            self.check(GROWING, EMPTY, sight, GROWN, True)
        for sight in (A, sight_of("a", 9), sight_of("$", 9), sight_of("?n", 5), ("at", 0, 0, 1), ALWAYS):
            self.check(GROWING, EMPTY, sight, GROWN, False)

    def test_two_hands_never_at_once(self):
        stand = first_stand(KEYS)
        entries = cover(KEYS[0], stand)
        self.assertRaises(TooMany, reached, KEYS[0], stand)
        for sight in (sight_of("in", 2), sight_of("key", 2), ("all", (sight_of("in"), sight_of("key"))),
                      ("all", (("at", 0, 0, 1), ("at", 1, 0, 1))), ("all", (("at", 0, 0, 2), ("at", 1, 0, 2)))):
            self.check(KEYS[0], stand, sight, entries, True)
        for sight in (sight_of("in"), sight_of("key"), sight_of("log", 9), ("at", 1, 0, 2)):
            self.check(KEYS[0], stand, sight, entries, False)
        two = (stand[0], notes_of("key; key"))
        self.check(KEYS[0], two, sight_of("in", 2), entries, False)
        self.check(KEYS[0], two, sight_of("in", 2), cover(KEYS[0], two), False)
        self.check(KEYS[0], two, sight_of("in", 3), cover(KEYS[0], two), True)

    def test_an_entry_that_no_weaving_leads_to_sees_it(self):
        other = ((at(0, 2, n=1),), counts_of("z"))
        self.check(TAKER, TAKERS, sight_of("z"), TAKEN, True)
        self.check(TAKER, TAKERS, sight_of("z"), TAKEN + [other], False)
        self.check(TAKER, TAKERS, sight_of("y"), TAKEN + [other], True)

    def test_no_cover(self):
        for thing in plain_things() + [tuple(TAKEN), [], TAKEN + [None], TAKEN[:2], [list(TAKEN[0])] + TAKEN[1:]]:
            self.check(TAKER, TAKERS, NEVER, thing, False)
            self.check(TAKER, TAKERS, sight_of("c"), thing, False)
        for entry in TAKEN:
            for other in spoiled(entry):
                self.check(TAKER, TAKERS, NEVER, TAKEN + [other], False)

    def test_as_told_once_more(self):
        source = random.Random(411)
        seen = []
        for programs, notes in made_plans(411, 150, (0, 1, 2, 2, 3)):
            stand = first_stand((programs, notes))
            entries = grown_list(programs, stand, 60)
            if entries is None:
                continue
            for _ in range(4):
                sight = made_sight(source, programs, 2)
                thing = source.sample(entries, len(entries) - source.choice((0, 0, 0, 1)))
                told = is_plain(sight) and is_cover(programs, stand, thing)
                seen.append(told and not any([entry_sees(programs, entry, sight) for entry in thing]))
                self.check(programs, stand, sight, thing, seen[-1])
        self.assertGreater(min(seen.count(True), seen.count(False)), 70)

    def test_what_is_shown_never_comes(self):
        source = random.Random(412)
        shown = 0
        for programs, notes in made_plans(412, 100, (1, 2, 2, 3)) + list(made_loops(413, 60)):
            stand = first_stand((programs, notes))
            sight = made_sight(source, programs, 1)
            entries = grown_list(programs, stand, 60)
            if entries is None or not cover_never(programs, stand, sight, entries):
                continue
            shown += 1
            for _ in range(80):
                self.assertIs(sees(programs, stand, sight), False)
                stand = moved(programs, stand, source.choice(ready(programs, stand) * 3 + [len(programs)]))
        self.assertGreater(shown, 20)


class CoverTest(unittest.TestCase):
    def check(self, programs, stand):
        """A cover, which is let by and the asker's own."""
        kept = copy.deepcopy((programs, stand))
        with self.subTest(stand=stand):
            told = cover(programs, stand)
            self.assertIs(told.__class__, list)
            self.assertLessEqual(len(told), 500)
            self.assertIs(lets_cover(programs, stand, told), True)
            many = len(told)
            told.reverse()
            self.assertIs(lets_cover(programs, stand, told), True)
            told.clear()
            again = cover(programs, stand)
            self.assertEqual(len(again), many)
            self.assertIs(lets_cover(programs, stand, again), True)
            self.assertEqual(repr((programs, stand)), repr(kept))
        return again

    def refused(self, programs, stand):
        kept = copy.deepcopy((programs, stand))
        with self.assertRaises(TooMany) as caught:
            cover(programs, stand)
        self.assertIs(caught.exception.__class__, TooMany)
        self.assertIsInstance(caught.exception, BoardError)
        self.assertNotIsInstance(caught.exception, (NoLine, NotReady, NoRow))
        self.assertEqual(repr((programs, stand)), repr(kept))

    def test_small_ones(self):
        for text in ("", "note a", "note a @2; note a", "hand; block", "note b; hand; block; take a",
                     "note a @2; hand; block; take a; lay b", "note a; note b; hand; block; take ?n; lay =n; go >0",
                     "note a; hand; block; look a >1; take a; go >0; block; lay b; go >0"):
            plan = plan_of(text)
            self.check(plan[0], first_stand(plan))

    def test_boards_that_grow(self):
        for text in ("hand; block; lay a; go >0", "hand; block; lay a; lay b; go >0; hand; block; take a; go >0",
                     "note a; hand; block; take a; lay a; lay a; go >0",
                     "hand; block; lay a @1; go >0; hand; block; look a >0; lay b; go >0",
                     "note n 0; hand; block; read n ?x; lay m +x; go >0; hand; block; take m ?y; lay o =y; go >0",
                     "note a; hand; block; take a; lay b; lay b; go >0; hand; block; take b; lay a; go >0"):
            plan = plan_of(text)
            stand = first_stand(plan)
            self.assertRaises(TooMany, reached, plan[0], stand)
            told = self.check(plan[0], stand)
            self.assertTrue(any([many is None for hands, counts in told for row, many in counts]))

    def test_of_many_plans(self):
        source = random.Random(421)
        for programs, notes in made_plans(421, 200, (1, 2, 2, 3)):
            for stand in (first_stand((programs, notes)), made_stand(source, programs)):
                if grown_list(programs, stand, 60) is not None:
                    self.assertTrue(is_cover(programs, stand, self.check(programs, stand)))

    def test_of_many_loops(self):
        told = []
        for programs, notes in made_loops(422, 150):
            stand = first_stand((programs, notes))
            if grown_list(programs, stand, 60) is not None:
                told.append(self.check(programs, stand))
                self.assertTrue(is_cover(programs, stand, told[-1]))
        self.assertGreater(len([entries for entries in told if len(entries) > 20]), 10)
        self.assertGreater(len([entries for entries in told if "None" in repr(entries)]), 30)

    def test_refused_just_where_the_grown_list_is_too_long(self):
        seen = []
        for programs, notes in made_loops(423, 80):
            stand = first_stand((programs, notes))
            seen.append(grown_list(programs, stand) is None)
            if seen[-1]:
                self.refused(programs, stand)
            else:
                self.assertLessEqual(len(cover(programs, stand)), 500)
        self.assertGreater(seen.count(True), 2)

    def test_five_hundred(self):
        """Of a chain of stands in which one hand moves each has an entry of its own."""
        stands = reached(COUNTING[0], first_stand(COUNTING))
        for k, many in ((500, 500), (499, 499), (400, 400), (1, 1)):
            self.assertEqual(len(grown_list(COUNTING[0], stands[-k])), many)
            self.assertEqual(len(self.check(COUNTING[0], stands[-k])), many)
        for k in (501, 502, 600, len(stands)):
            self.assertIsNone(grown_list(COUNTING[0], stands[-k]))
            self.refused(COUNTING[0], stands[-k])

    def test_five_hundred_of_several_hands(self):
        for many in ((20, 25), (2, 10, 25), (5, 5, 5, 2, 2)):
            plan = steps_plan(*many)
            self.assertEqual(len(self.check(plan[0], first_stand(plan))), 500)
        for many in ((21, 24), (3, 8, 21), (49, 49), (2, 2, 2, 7, 9)):
            plan = steps_plan(*many)
            self.refused(plan[0], first_stand(plan))

    def test_five_hundred_that_come_back_to_the_first(self):
        for many in ((20, 25), (10, 5, 10)):
            plan = plan_of("; ".join([ring_hand(one) for one in many]))
            self.assertEqual(len(reached(plan[0], first_stand(plan))), 500)
            self.assertEqual(len(self.check(plan[0], first_stand(plan))), 500)
        plan = plan_of("; ".join([ring_hand(21), ring_hand(24)]))
        self.refused(plan[0], first_stand(plan))

    def test_five_hundred_with_rows_that_grow(self):
        """Each place of the rings with four entries of the hand that lays: none, one, and any many at both places."""
        for many, told in (((25, 5), True), ((21, 6), False)):
            lines = ["hand; block; lay a; go >0"] + [ring_hand(one) for one in many]
            plan = plan_of("; ".join(lines))
            self.assertIs(grown_list(plan[0], first_stand(plan)) is not None, told)
            if told:
                self.assertEqual(len(self.check(plan[0], first_stand(plan))), 500)
            else:
                self.refused(plan[0], first_stand(plan))

    def test_few_stands_but_many_entries(self):
        """Fewer than 2,000 stands are come to, so only the cover is refused."""
        plan = steps_plan(21, 24)
        self.assertEqual(len(reached(plan[0], first_stand(plan))), 504)
        self.refused(plan[0], first_stand(plan))

    def test_rows_that_change_hands(self):
        """So many notes a become b, b become c: the grown list is long, but no row grows."""
        programs = plan_of("hand; block; take a; lay b; go >0; hand; block; take b; lay c; go >0")[0]
        for many in range(3, 13):
            stand = ((at(0, 0), at(0, 0)), notes_of("a") * many)
            if grown_list(programs, stand) is None:
                self.refused(programs, stand)
            else:
                self.check(programs, stand)
        self.assertIsNone(grown_list(programs, stand))

    def test_the_grown_list_by_hand(self):
        """What is told is no greater than needed: what the grown list doesn't see, it doesn't either."""
        stand = ((at(0, 0), at(0, 0)), ())
        programs = plan_of("hand; block; lay a; take b; go >0; hand; block; take a; lay b; go >0")[0]
        told = self.check(programs, stand)
        self.assertIs(cover_never(programs, stand, sight_of("a", 2), told), True)
        self.assertIs(cover_never(programs, stand, ("all", (A, sight_of("b"))), told), True)
        self.assertIs(cover_never(programs, stand, A, told), False)

    def test_long_weavings_stay_below(self):
        source = random.Random(431)
        grew = 0
        for programs, notes in made_loops(431, 80):
            stand = first_stand((programs, notes))
            try:
                entries = cover(programs, stand)
            except TooMany:
                continue
            for _ in range(100):
                self.assertTrue(any([below(stand, entry) for entry in entries]))
                stand = moved(programs, stand, source.choice(ready(programs, stand) * 4 + [len(programs)]))
            grew += len(stand[1]) > 15
        self.assertGreater(grew, 10)

    def test_the_longest_weavings(self):
        source = random.Random(432)
        for plan in (KEYS, (GROWING, ()), plan_of("note a; hand; block; take a; lay a; lay a; go >0")):
            stand = first_stand(plan)
            entries = cover(plan[0], stand)
            for _ in range(400):
                stand = moved(plan[0], stand, source.choice(ready(plan[0], stand) * 9 + [len(plan[0])]))
                self.assertTrue(any([below(stand, entry) for entry in entries]))
            self.assertGreater(len(stand[1]), 60)

    def test_each_stand_come_to_is_below_one(self):
        for programs, stand in small_ones(433, 100):
            try:
                entries = cover(programs, stand)
            except TooMany:
                continue
            for one in reached(programs, stand):
                self.assertTrue(any([below(one, entry) for entry in entries]))


if __name__ == "__main__":
    unittest.main()
