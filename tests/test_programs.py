import copy
import itertools
import unittest

from helper import (ANY, JOB, LAY_NEXT, NOTES, PLANS, PROGRAMS, TAKE_N, block, check_judge, plain_things,
                    program)
from noteboard.acts import is_block
from noteboard.programs import is_plan, is_program, is_programs, known_at

EMPTY = program(block(""))


def lay(*fields):
    return ("lay", fields, None)


def take(*fields):
    return ("take", fields)


def as_(name):
    return ("as", name)


def next_(name):
    return ("next", name)


def bind(name):
    return ("bind", name)


class Judging(unittest.TestCase):
    judge = staticmethod(is_program)

    def check(self, thing, told):
        with self.subTest(thing=thing):
            self.assertIs(self.judge(thing), told)

    def right(self, *blocks):
        self.check(blocks, True)

    def wrong(self, *blocks):
        for part in blocks:
            # The fault told by the test is the only one: each block is one by form.
            self.assertIs(is_block(part), True)
        self.check(blocks, False)


class ProgramTest(Judging):
    def test_programs(self):
        wrong = [(), [], ((),), block(""), (block(""), ()), (block(""), None), TAKE_N, (TAKE_N,), ((TAKE_N,),),
                 [block("")], (list(block("")),), (([], ()),), (((), []),), (((), ([],)),), 0, "hand", (((), (), ()),)]
        check_judge(self, is_program, PROGRAMS, wrong + PLANS + [(one,) for one in PROGRAMS])

    def test_how_many_blocks(self):
        for many in range(10):
            self.check((block(""),) * many, 1 <= many <= 6)
            self.check((block("", ("go", max(0, many - 1))),) * many, 1 <= many <= 6)

    def test_each_block_is_looked_at(self):
        for bad in [(), ((),), [(), ()], (("b", "a"), ()), ((), (("go", -1),)), ((), (("go", True),)), None, 0]:
            for many in range(1, 7):
                for k in range(many):
                    self.check((block(""),) * k + (bad,) + (block(""),) * (many - 1 - k), False)

    def test_first_block_wants_no_names(self):
        for wanted in ("a", "abcd", "a b", "a b c d"):
            self.wrong(block(wanted))
            self.wrong(block(wanted), block(""))
            self.right(block(""), block(wanted))
            self.right(block(""), block(""), block(wanted))

    def test_names_of_a_template(self):
        for field in (as_("n"), next_("n")):
            self.wrong(block("", lay(field)))
            self.wrong(block("", lay(("is", 1), ("is", "n"), field)))
            self.wrong(block("", lay(field), TAKE_N))
            self.wrong(block("", take(bind("m")), lay(field)))
            self.right(block("", TAKE_N, lay(field)))
            self.right(block("", TAKE_N, lay(field, field, field, field)))
            self.wrong(block("", TAKE_N, lay(field, field, field, as_("m"))))
            self.wrong(block("", TAKE_N, lay(next_("m"), field)))
            self.right(block(""), block("n", lay(field)))
            self.wrong(block(""), block("m", lay(field)))
            self.wrong(block(""), block("n"), block("", lay(field)))

    def test_each_template_names_are_looked_at(self):
        self.right(block("", take(bind("a"), bind("b")), lay(as_("a"), next_("b"))))
        self.wrong(block("", take(bind("a")), lay(as_("a"), next_("b"))))
        self.wrong(block("", take(bind("b")), lay(as_("a"), next_("b"))))

    def test_takes_reads_and_looks_bind(self):
        self.right(block("", ("take", (bind("n"),)), lay(as_("n"))))
        self.right(block("", ("read", (bind("n"),)), lay(as_("n"))))
        self.right(block("", ("look", (bind("n"),), 0), lay(as_("n"))))
        self.right(block("", ("look", (bind("n"),), 1), lay(as_("n"))), block(""))
        self.wrong(block("", lay(("is", "n")), lay(as_("n"))))
        self.wrong(block("", ("take", (("is", "n"), ANY)), lay(as_("n"))))

    def test_terms(self):
        self.right(block("", ("same", ("is", 1), ("is", "n"), 0)))
        self.wrong(block("", ("same", as_("n"), ("is", 1), 0)))
        self.wrong(block("", ("same", ("is", 1), as_("n"), 0)))
        self.right(block("", TAKE_N, ("same", as_("n"), as_("n"), 0)))
        self.wrong(block("", TAKE_N, ("same", as_("m"), as_("n"), 0)))
        self.wrong(block("", TAKE_N, ("same", as_("n"), as_("m"), 0)))
        self.wrong(block("", ("same", as_("n"), as_("n"), 0), TAKE_N))
        self.right(block(""), block("m n", ("same", as_("n"), as_("m"), 0)))

    def test_as_of_a_pattern(self):
        for head, more in (("take", ()), ("read", ()), ("look", (0,))):
            def act(*fields):
                return (head, fields) + more
            self.wrong(block("", act(as_("n"))))
            self.wrong(block("", act(as_("n"), bind("n"))))
            self.wrong(block("", act(ANY, as_("n"), bind("n"), as_("n"))))
            self.right(block("", act(bind("n"), as_("n"))))
            self.right(block("", act(bind("n"), ANY, as_("n"), as_("n"))))
            self.wrong(block("", act(bind("n"), as_("m"))))
            self.wrong(block("", act(bind("m"), as_("n"), bind("n"))))
            self.right(block("", TAKE_N, act(as_("n"))))
            self.right(block("", TAKE_N, act(as_("n"), bind("n"))))
            self.wrong(block("", act(bind("n")), act(as_("m"))))
            self.right(block(""), block("n", act(as_("n"), bind("n"), as_("n"))))
            self.wrong(block("", act(as_("n")), TAKE_N))

    def test_block_that_there_is_not(self):
        leads = [("go", 1), ("same", ("is", 1), ("is", 1), 1), ("look", (ANY,), 1)]
        for act in leads:
            self.wrong(block("", act))
            self.wrong(block("", TAKE_N, ("go", 0), act))
            self.right(block("", act), block(""))
            for far in (2, 3, 5, 6, 7, 99, 100, 10 ** 59):
                self.wrong(block("", act[:-1] + (far,)), block(""))
                self.wrong(block(""), block("", act[:-1] + (far,)))
        for many in range(1, 7):
            for number in range(9):
                self.check((block("", ("go", number)),) + (block(""),) * (many - 1), number < many)

    def test_block_that_wants_a_name(self):
        for act in [("go", 1), ("same", ("is", 1), ("is", 1), 1), ("look", (ANY,), 1)]:
            self.wrong(block("", act), block("n"))
            self.right(block("", TAKE_N, act), block("n"))
            self.wrong(block("", act, TAKE_N), block("n"))
            self.wrong(block("", TAKE_N, act), block("m n"))
            self.wrong(block("", TAKE_N, act), block("n o"))
            self.wrong(block("", take(bind("m")), act), block("n"))
            self.right(block("", take(bind("o"), bind("m"), bind("n")), act), block("m n"))
            self.right(block(""), block("n", act))
            self.wrong(block(""), block("n"), block("m", act))
            self.right(block(""), block("n"), block("m n", act))

    def test_what_a_look_binds_is_not_there_yet(self):
        self.wrong(block("", ("look", (bind("n"),), 1)), block("n"))
        self.right(block("", TAKE_N, ("look", (bind("n"),), 1)), block("n"))
        self.right(block("", ("look", (bind("n"),), 0), ("look", (bind("n"),), 1)), block("n"))
        self.wrong(block("", ("look", (bind("n"), as_("n")), 1)), block("n"))
        self.right(block("", ("look", (bind("n"),), 1), ("go", 2)), block(""), block("n"))

    def test_acts_behind_a_go_are_looked_at(self):
        self.right(block("", ("go", 0), ("go", 0), lay(("is", 1))))
        self.wrong(block("", ("go", 0), lay(as_("n"))))
        self.wrong(block("", ("go", 0), ("go", 1)))
        self.wrong(block("", ("go", 0), take(as_("n"))))
        self.right(block("", ("go", 0), TAKE_N, lay(as_("n"))))
        self.right(block("", TAKE_N, ("go", 0), lay(as_("n"))))

    def test_blocks_that_none_leads_to_are_looked_at(self):
        for k in range(1, 6):
            blocks = [block("")] * 6
            blocks[k] = block("n", lay(as_("m")))
            self.wrong(*blocks)
            blocks[k] = block("m n", lay(as_("m")))
            self.right(*blocks)

    def test_each_act_of_eight_is_looked_at(self):
        for k in range(8):
            acts = [LAY_NEXT] * 8
            self.check((block(""), block("n", *acts)), True)
            for bad in (lay(as_("m")), ("go", 2), take(as_("m")), ("same", as_("n"), as_("m"), 0)):
                acts[k] = bad
                self.check((block(""), block("n", *acts)), False)

    def test_more_than_four_names_may_be_known(self):
        acts = [take(bind("a"), bind("b"), bind("c"), bind("d")), take(bind("e"), bind("f"), bind("g"), bind("h"))]
        acts += [lay(as_("a"), as_("h"), as_("d"), as_("e")), ("go", 1)]
        self.right(block("", *acts), block("b d f h"))
        self.wrong(block("", *acts), block("b d f z"))

    def test_held_against_the_words_of_the_document(self):
        fields = [bind("n"), as_("n"), as_("m")]
        acts = [("take", pair) for pair in itertools.product(fields, repeat=2)] + [lay(next_("n"))]
        acts += [("look", (one,), 1) for one in fields] + [("go", 0), ("go", 1), ("go", 2), lay(as_("m"))]
        acts += [("same", as_("n"), ("is", "m"), 1)]
        for pair in itertools.product(acts, repeat=2):
            for wanted in ("", "n", "m n"):
                thing = (block("", *pair), block(wanted, *reversed(pair)))
                self.assertIs(is_program(thing), right_by_document(thing), thing)


def known_by_document(program, block, place):
    """Point 16 read name by name: each name that the block wants, or that an act ahead of the place binds."""
    wanted, acts = program[block]
    names = list(wanted)
    for k in range(place):
        if acts[k][0] in ("take", "read", "look"):
            names += [field[1] for field in acts[k][1] if field[0] == "bind"]
    return sorted({name: None for name in names})


def right_by_document(program):
    """Point 3 read act by act, of a thing whose blocks are right by form."""
    if program[0][0]:
        return False
    for number, (_, acts) in enumerate(program):
        for place, act in enumerate(acts):
            known = known_by_document(program, number, place)
            fields = [part for part in act[1:] if isinstance(part, tuple) and isinstance(part[0], str)]
            if act[0] in ("lay", "take", "read", "look"):
                fields = list(act[1])
            bound = []
            for field in fields:
                if field[0] in ("as", "next") and field[1] not in known + bound:
                    return False
                bound += [field[1]] if field[0] == "bind" else []
            if act[0] in ("look", "same", "go"):
                if act[-1] not in range(len(program)) or set(program[act[-1]][0]) - set(known):
                    return False
    return True


class ProgramsTest(Judging):
    judge = staticmethod(is_programs)

    def test_programs(self):
        right = [()] + [(one,) for one in PROGRAMS] + [tuple(PROGRAMS)]
        wrong = PROGRAMS + [[], [EMPTY], ((),), (EMPTY, None), (EMPTY, ()), (list(EMPTY),), (EMPTY, [block("")]),
                            None, 0, "hand", (0,), ((EMPTY,),), PLANS[-1]]
        check_judge(self, is_programs, right, wrong)

    def test_how_many(self):
        for many in range(9):
            self.check((EMPTY,) * many, many <= 5)
            self.check((PROGRAMS[3],) * many, many <= 5)

    def test_each_is_looked_at(self):
        for bad in [program(block("n")), program(block("", lay(as_("n")))), program(block("", ("go", 1))), (), None]:
            for many in range(1, 6):
                for k in range(many):
                    self.check((EMPTY,) * k + (bad,) + (EMPTY,) * (many - 1 - k), False)

    def test_blocks_and_names_of_another_program_do_not_count(self):
        two = program(block("", TAKE_N), block("n", LAY_NEXT))
        self.check((two, program(block("", ("go", 1)))), False)
        self.check((program(block("", ("go", 1))), two), False)
        self.check((two, program(block("", LAY_NEXT))), False)


class PlanTest(Judging):
    judge = staticmethod(is_plan)

    def test_plans(self):
        wrong = [(), ((),), ((), (), ()), [(), ()], ((), []), ([], ()), (EMPTY, ()), ((EMPTY,), NOTES[0]),
                 ((EMPTY,), (NOTES[0], None)), ((EMPTY,), NOTES), ([EMPTY], ()), (None, ()), ((), None), None, 0,
                 ((), (("job", 1),)), ((), ((("job", 1),),)), (tuple(NOTES), (EMPTY,)), (tuple(NOTES), ())]
        wrong += PROGRAMS + NOTES + [tuple(PROGRAMS), tuple(NOTES)]
        check_judge(self, is_plan, PLANS, wrong)

    def test_how_many_notes(self):
        for many in range(16):
            for note in NOTES:
                self.check(((), (note,) * many), many <= 12)
                self.check(((EMPTY,), (note,) * many), many <= 12)

    def test_how_many_programs(self):
        for many in range(9):
            self.check(((EMPTY,) * many, ()), many <= 5)
            self.check(((EMPTY,) * many, tuple(NOTES)), many <= 5)

    def test_each_note_is_looked_at(self):
        for bad in [(), None, ("a",), (("a",), 0), (("a",), 21), (("a",), True), ((), None), ([], None), [("a",), 1]]:
            for k in range(12):
                self.check(((), (NOTES[0],) * k + (bad,) + (NOTES[0],) * (11 - k)), False)

    def test_programs_are_right_too(self):
        for bad in [program(block("n")), program(block("", lay(as_("n")))), program(block("", ("go", 1)))]:
            self.check(((bad,), ()), False)
            self.check(((EMPTY, bad), tuple(NOTES)), False)

    def test_like_notes_may_stand_twice(self):
        self.check(((), (NOTES[1],) * 2), True)

    def test_judges_change_nothing(self):
        things = plain_things() + [[[], []], [[["n"], []]], ([(["n"], [])],), [PLANS[-1]], PLANS, PROGRAMS, NOTES]
        before = copy.deepcopy(things)
        for thing in things:
            for judge in (is_program, is_programs, is_plan):
                judge(thing)
        self.assertEqual(things, before)


class KnownTest(unittest.TestCase):
    def check(self, blocks, number, place, names):
        with self.subTest(blocks=blocks, number=number, place=place):
            told = known_at(blocks, number, place)
            self.assertEqual(told, tuple(names.split()))
            self.assertIs(told.__class__, tuple)

    def test_of_a_block_without_acts(self):
        blocks = program(block(""), block("a"), block("a b c d"), block("a aa aaa b"))
        for number, names in enumerate(("", "a", "a b c d", "a aa aaa b")):
            self.check(blocks, number, 0, names)

    def test_at_each_place(self):
        acts = [take(bind("m")), ("lay", (as_("m"), next_("n")), 3), ("read", (bind("b"), bind("a"))),
                ("same", as_("a"), as_("b"), 0), ("look", (bind("z"), as_("z")), 0), ("go", 0), take(bind("c"))]
        blocks = program(block(""), block("n", *acts))
        self.assertIs(is_program(blocks), True)
        told = ["n", "m n", "m n", "a b m n", "a b m n", "a b m n z", "a b m n z", "a b c m n z"]
        for place, names in enumerate(told):
            self.check(blocks, 1, place, names)
        self.check(blocks, 0, 0, "")

    def test_each_name_once(self):
        acts = [take(bind("n")), take(bind("n"), bind("n")), ("read", (bind("n"), bind("m"))),
                ("look", (bind("m"),), 0)]
        blocks = program(block("", *acts), block("m n", *acts))
        for place, names in enumerate(("", "n", "n", "m n", "m n")):
            self.check(blocks, 0, place, names)
            self.check(blocks, 1, place, "m n")

    def test_rising_as_texts(self):
        blocks = program(block("", take(bind("b"), bind("aa"), bind("a"), bind("ab"))), block("ab b", take(bind("aa"))))
        self.check(blocks, 0, 1, "a aa ab b")
        self.check(blocks, 1, 1, "aa ab b")

    def test_only_binds_of_what_gets_count(self):
        blocks = program(block(""), block("m n", take(as_("n"), ANY, JOB), ("same", as_("m"), ("is", "q"), 0),
                                          ("lay", (as_("m"), ("is", "q")), None), ("go", 0), ("look", (as_("m"),), 0)))
        for place in range(6):
            self.check(blocks, 1, place, "m n")

    def test_only_acts_ahead_of_the_place_count(self):
        acts = [take(bind(name)) for name in "hgfedcba"]
        blocks = program(block("", *acts))
        for place in range(9):
            self.check(blocks, 0, place, " ".join(sorted("hgfedcba"[:place])))

    def test_other_blocks_do_not_count(self):
        blocks = program(block("", take(bind("n"))), block("m", take(bind("o"))), block(""))
        self.check(blocks, 0, 1, "n")
        self.check(blocks, 1, 0, "m")
        self.check(blocks, 1, 1, "m o")
        self.check(blocks, 2, 0, "")

    def test_held_against_the_words_of_the_document(self):
        for blocks in PROGRAMS:
            before = copy.deepcopy(blocks)
            for number in range(len(blocks)):
                for place in range(len(blocks[number][1]) + 1):
                    self.check(blocks, number, place, " ".join(known_by_document(blocks, number, place)))
            self.assertEqual(blocks, before)


if __name__ == "__main__":
    unittest.main()
