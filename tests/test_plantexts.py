import copy
import itertools
import re
import unittest

from helper import PLANS, PROGRAMS, block, program
from noteboard.errors import BoardError, NoLine, NoRow, NotReady, TooMany
from noteboard.plantexts import read_plan, shown_plan
from noteboard.programs import is_plan

WORDS = ["note", "hand", "block", "lay", "take", "read", "look", "same", "go"]
ACT_WORDS = WORDS[3:]
ALL_FIELDS = (("is", "job"), ("is", 0), ("as", "n"), ("next", "n"))
# Acts of a block that wants m and n, of a program with two blocks.
ACT_LINES = [
    ("lay a", ("lay", (("is", "a"),), None)),
    ("lay a @1", ("lay", (("is", "a"),), 1)),
    ("lay 0 @20", ("lay", (("is", 0),), 20)),
    ("lay job 0 =n +n", ("lay", ALL_FIELDS, None)),
    ("lay job 0 =n +n @19", ("lay", ALL_FIELDS, 19)),
    ("lay 99 abcdefgh", ("lay", (("is", 99), ("is", "abcdefgh")), None)),
    ("take a", ("take", (("is", "a"),))),
    ("take ?", ("take", (("any",),))),
    ("take $", ("take", (("word",),))),
    ("take #", ("take", (("number",),))),
    ("take ?abcd", ("take", (("bind", "abcd"),))),
    ("take =n", ("take", (("as", "n"),))),
    ("take ?n =n ?n ?", ("take", (("bind", "n"), ("as", "n"), ("bind", "n"), ("any",)))),
    ("read $ # ? 7", ("read", (("word",), ("number",), ("any",), ("is", 7)))),
    ("read =m ?m", ("read", (("as", "m"), ("bind", "m")))),
    ("look ? >0", ("look", (("any",),), 0)),
    ("look a 1 ?q =q >1", ("look", (("is", "a"), ("is", 1), ("bind", "q"), ("as", "q")), 1)),
    ("same 1 b >0", ("same", ("is", 1), ("is", "b"), 0)),
    ("same =n =m >1", ("same", ("as", "n"), ("as", "m"), 1)),
    ("same =n 99 >1", ("same", ("as", "n"), ("is", 99), 1)),
    ("go >0", ("go", 0)),
    ("go >1", ("go", 1)),
]
OWN_WORDS = [
    "note note hand block lay @3", "note take read look same", "note go",
    "hand", "block", "look look same go >0", "same note hand >0", "take take", "read hand block", "lay as next is age",
    "block go hand note take", "lay go =hand @4", "take note =note block ?read", "go >0",
]


def refusal_of(lines):
    """The line and word that are told where the lines are refused, None where they are read."""
    try:
        read_plan(lines)
    except NoLine as error:
        return (error.line, error.word)
    return None


class TextTest(unittest.TestCase):
    def check_read(self, lines, plan):
        with self.subTest(lines=lines):
            told = read_plan(lines)
            self.assertEqual(told, plan)
            self.assertIs(is_plan(told), True)

    def check_both(self, lines, plan):
        self.check_read(lines, plan)
        with self.subTest(plan=plan):
            told = shown_plan(plan)
            self.assertEqual(told, lines)
            self.assertIs(told.__class__, list)

    def refuse(self, lines, line, word):
        with self.subTest(lines=lines):
            self.assertEqual(refusal_of(lines), (line, word))


class WrittenTest(TextTest):
    def test_nothing(self):
        self.check_both([], ((), ()))

    def test_notes(self):
        self.check_both(["note a"], ((), ((("a",), None),)))
        self.check_both(["note 0"], ((), (((0,), None),)))
        self.check_both(["note 0 99 a abcdefgh"], ((), (((0, 99, "a", "abcdefgh"), None),)))
        self.check_both(["note 10 @1"], ((), (((10,), 1),)))
        self.check_both(["note a 1 b 2 @20"], ((), ((("a", 1, "b", 2), 20),)))
        self.check_both(["note b", "note a @3", "note b"], ((), ((("b",), None), (("a",), 3), (("b",), None))))

    def test_each_age(self):
        for age in range(1, 21):
            self.check_both([f"note a @{age}", "hand", "block", f"lay a @{age}"],
                            ((program(block("", ("lay", (("is", "a"),), age))),), ((("a",), age),)))

    def test_each_number(self):
        for number in range(100):
            self.check_both([f"note {number}"], ((), (((number,), None),)))

    def test_hands_and_blocks(self):
        self.check_both(["hand", "block"], ((program(block("")),), ()))
        self.check_both(["hand", "block", "hand", "block"], ((program(block("")),) * 2, ()))
        self.check_both(["hand", "block", "block a", "block a b c d", "block a aa b"],
                        ((program(block(""), block("a"), block("a b c d"), block("a aa b")),), ()))

    def test_each_act(self):
        for line, act in ACT_LINES:
            self.check_both(["hand", "block", "block m n", line],
                            ((program(block(""), block("m n", act)),), ()))

    def test_acts_in_their_order(self):
        for k in range(len(ACT_LINES)):
            chosen = (ACT_LINES[k:] + ACT_LINES[:k])[:8]
            lines = ["note a", "hand", "block", "block m n"] + [line for line, act in chosen]
            blocks = program(block(""), block("m n", *[act for line, act in chosen]))
            self.check_both(lines, ((blocks,), ((("a",), None),)))

    def test_blocks_up_to_the_sixth(self):
        for number in range(6):
            self.check_both(["hand", "block", f"go >{number}"] + ["block"] * 5,
                            ((program(block("", ("go", number)), *[block("")] * 5),), ()))

    def test_words_that_are_the_texts_own(self):
        for word in WORDS + ["is", "any", "as", "next", "bind", "word", "number", "age", "none", "true"]:
            self.check_both([f"note {word}"], ((), (((word,), None),)))
            self.check_both(["hand", "block", f"take {word} {word}", f"lay {word}"],
                            ((program(block("", ("take", (("is", word),) * 2), ("lay", (("is", word),), None))),), ()))
            if len(word) <= 4:
                self.check_both(["hand", "block", f"block {word}", f"lay ={word} {word} +{word}"],
                                ((program(block(""), block(word, ("lay", (("as", word), ("is", word), ("next", word)),
                                                                  None))),), ()))

    def test_a_plan_of_own_words(self):
        plan = read_plan(OWN_WORDS)
        self.assertIs(is_plan(plan), True)
        self.assertEqual(plan[1], ((("note", "hand", "block", "lay"), 3), (("take", "read", "look", "same"), None),
                                   (("go",), None)))
        self.assertEqual(plan[0][0][1], (("go", "hand", "note", "take"), (
            ("lay", (("is", "go"), ("as", "hand")), 4),
            ("take", (("is", "note"), ("as", "note"), ("is", "block"), ("bind", "read"))), ("go", 0))))
        self.assertEqual(shown_plan(plan), OWN_WORDS)

    def test_what_is_written_is_read_to_just_the_plan(self):
        for plan in PLANS:
            lines = shown_plan(plan)
            self.check_both(lines, plan)
            self.assertEqual(shown_plan(read_plan(lines)), lines)

    def test_the_longest_plan(self):
        row = ("abcdefgh",) * 4
        template = tuple([("is", word) for word in row])
        blocks = (block("", *[("lay", template, 20)] * 8),) + (block("aaaa bbbb cccc dddd", *[("go", 0)] * 8),) * 5
        plan = ((blocks,) * 5, ((row, 20),) * 12)
        self.assertIs(is_plan(plan), True)
        lines = shown_plan(plan)
        self.assertEqual(len(lines), 12 + 5 * 55)
        self.check_both(lines, plan)

    def test_how_it_is_written(self):
        self.assertEqual(shown_plan(((PROGRAMS[2],), ((("job", 2), 20), ((0,), None)))), [
            "note job 2 @20", "note 0", "hand", "block", "read $ # ?b ?a", "go >1",
            "block a b", "same =a =b >2", "lay =b", "block", "lay 0 @1"])

    def test_told_is_the_askers_own(self):
        for plan in PLANS:
            before = copy.deepcopy(plan)
            told = shown_plan(plan)
            kept = list(told)
            told.append("hand")
            self.assertEqual(shown_plan(plan), kept)
            read = read_plan(kept)
            kept.append("hand")
            self.assertEqual(read, plan)
            self.assertEqual(plan, before)

    def test_lines_handed_in_stay(self):
        for lines in (OWN_WORDS, ["note a"], [], ["note a", "hand"], ["note  a"], ["hand", "block", "lay =n"]):
            before = list(lines)
            one = refusal_of(lines)
            self.assertEqual(lines, before)
            self.assertEqual(refusal_of(lines), one)
            self.assertEqual(lines, before)


class RefusalTest(TextTest):
    def test_class_and_fields(self):
        for lines in (["no"], ["hand"], ["note"], ["hand", "block", "lay =n"], ["hand", "block a"]):
            with self.assertRaises(NoLine) as taken:
                read_plan(lines)
            error = taken.exception
            self.assertIs(error.__class__, NoLine)
            self.assertIsInstance(error, BoardError)
            self.assertIsInstance(error, ValueError)
            self.assertNotIsInstance(error, (NotReady, TooMany, NoRow))
            self.assertIs(error.line.__class__, int)
            self.assertIs(error.word.__class__, int)

    def test_first_words(self):
        for word in ("", "no", "Note", "NOTE", "notes", "not", "hands", "lays", "a", "0", "?", "=n", "@1", ">0"):
            self.refuse([word], 0, 0)
            self.refuse([word + " a"], 0, 0)
            self.refuse(["note a", word], 1, 0)
            self.refuse(["hand", word], 1, 0)
            self.refuse(["hand", "block", word], 2, 0)
            self.refuse(["hand", "block", "go >0", word, "no"], 3, 0)

    def test_blanks(self):
        self.refuse([""], 0, 0)
        self.refuse([" "], 0, 0)
        self.refuse([" note a"], 0, 0)
        self.refuse(["note a", ""], 1, 0)
        self.refuse(["", "note a"], 0, 0)
        self.refuse(["hand", "block", ""], 2, 0)
        self.refuse(["hand", ""], 1, 0)
        self.refuse(["note  a"], 0, 1)
        self.refuse(["note "], 0, 1)
        self.refuse(["note a "], 0, 2)
        self.refuse(["note a  b"], 0, 2)
        self.refuse(["note a @1 "], 0, 3)
        self.refuse(["hand "], 0, 1)
        self.refuse(["hand", "block "], 1, 1)
        self.refuse(["hand", "block", "block a "], 2, 2)
        self.refuse(["hand", "block", "block a  b"], 2, 2)
        for line, act in ACT_LINES:
            words = line.split(" ")
            lines = ["hand", "block", "block m n"]
            self.refuse(lines + [" " + line], 3, 0)
            self.refuse(lines + [line + " "], 3, len(words))
            for k in range(1, len(words)):
                self.refuse(lines + [" ".join(words[:k]) + "  " + " ".join(words[k:])], 3, k)

    def test_other_signs_part_no_words(self):
        self.refuse(["note\ta"], 0, 0)
        self.refuse(["note a\tb"], 0, 1)
        self.refuse(["note a\n"], 0, 1)
        self.refuse(["note a\nnote b"], 0, 1)

    def test_note_behind_a_hand(self):
        self.refuse(["hand", "note a"], 1, 0)
        self.refuse(["hand", "block", "note a"], 2, 0)
        self.refuse(["note a", "hand", "block", "go >0", "note a"], 4, 0)
        self.refuse(["hand", "block", "note"], 2, 0)

    def test_thirteenth_note(self):
        self.assertIsNone(refusal_of(["note a"] * 12))
        self.refuse(["note a"] * 13, 12, 0)
        self.refuse(["note a"] * 12 + ["note ?"], 12, 0)
        self.assertIsNone(refusal_of(["note a"] * 12 + ["hand", "block"]))

    def test_sixth_hand(self):
        self.assertIsNone(refusal_of(["hand", "block"] * 5))
        self.refuse(["hand", "block"] * 6, 10, 0)
        self.refuse(["hand", "block"] * 5 + ["hand a"], 10, 0)

    def test_seventh_block(self):
        self.assertIsNone(refusal_of(["hand"] + ["block"] * 6))
        self.refuse(["hand"] + ["block"] * 7, 7, 0)
        self.refuse(["hand"] + ["block"] * 6 + ["block b a"], 7, 0)
        self.assertIsNone(refusal_of(["hand"] + ["block"] * 6 + ["hand"] + ["block"] * 6))
        self.refuse(["hand"] + ["block"] * 6 + ["hand"] + ["block"] * 7, 14, 0)

    def test_ninth_act(self):
        for act in ("go >0", "take ?", "read a", "lay a", "look a >0", "same a b >0"):
            self.assertIsNone(refusal_of(["hand", "block"] + [act] * 8))
            self.refuse(["hand", "block"] + [act] * 9, 10, 0)
            self.refuse(["hand", "block"] + [act] * 8 + ["lay"], 10, 0)
            self.assertIsNone(refusal_of(["hand"] + (["block"] + [act] * 8) * 2))
            self.refuse(["hand"] + (["block"] + [act] * 8) * 2 + [act], 19, 0)

    def test_behind_a_hand_all_but_a_block(self):
        for line in ["hand", "note a"] + [line for line, act in ACT_LINES]:
            self.refuse(["hand", line], 1, 0)
            self.refuse(["hand", "block", "hand", line], 3, 0)

    def test_act_or_block_ahead_of_all(self):
        for line in ["block", "block a"] + [line for line, act in ACT_LINES]:
            self.refuse([line], 0, 0)
            self.refuse(["note a", line], 1, 0)

    def test_a_line_that_lacks(self):
        self.refuse(["hand"], 1, 0)
        self.refuse(["note a", "note b", "hand"], 3, 0)
        self.refuse(["hand", "block", "go >0", "hand"], 4, 0)
        # By form ahead of what is right: the first block's name is told only where no line lacks.
        self.refuse(["hand", "block a", "hand"], 3, 0)

    def test_behind_a_hand_word(self):
        for word in ("a", "0", "block", "hand", "@1", ">0", "?"):
            self.refuse([f"hand {word}"], 0, 1)
            self.refuse([f"hand {word} {word}", "block"], 0, 1)

    def test_fifth_field(self):
        self.refuse(["note a b c d e"], 0, 5)
        self.refuse(["note a b c d e @3"], 0, 5)
        lines = ["hand", "block"]
        for head in ("lay", "take", "read", "look"):
            self.refuse(lines + [f"{head} a b c d e"], 2, 5)
            self.refuse(lines + [f"{head} a b c d e >0"], 2, 5)
            self.refuse(lines + [f"{head} 1 2 3 4 5 6"], 2, 5)

    def test_no_such_field_there(self):
        lines = ["hand", "block", "take ?n"]
        bad = {
            "note": ["?", "$", "#", "?n", "=n", "+n", ">0"],
            "lay": ["?", "$", "#", "?n", ">0"],
            "take": ["+n", ">0", "@1"],
            "read": ["+n", ">0", "@1"],
            "look": ["+n", "@1"],
            "same": ["?", "$", "#", "?n", "+n", "@1"],
        }
        for head, words in bad.items():
            ahead = [] if head == "note" else lines
            for word in words + ["", "A", "abcdefghi", "100", "01", "00", "-1", "=", "=abcde", "?N", "a1", "$n", "~"]:
                self.refuse(ahead + [f"{head} {word}"], len(ahead), 1)
                self.refuse(ahead + [f"{head} {word} a"], len(ahead), 1)
                self.refuse(ahead + [f"{head} a {word}"], len(ahead), 2)
                if head != "same":
                    self.refuse(ahead + [f"{head} a 1 b {word} c"], len(ahead), 4)

    def test_numbers(self):
        for number in range(100):
            self.assertIsNone(refusal_of([f"note {number}"]))
        for number in ("00", "01", "09", "007", "000", "100", "101", "110", "999", "1000", "9" * 60, "1a", "-0", "1_0"):
            self.refuse([f"note {number}"], 0, 1)
            self.refuse([f"note a {number}"], 0, 2)
            self.refuse(["hand", "block", f"lay a {number}"], 2, 2)
            self.refuse(["hand", "block", f"take {number}"], 2, 1)
            self.refuse(["hand", "block", f"same 1 {number} >0"], 2, 2)

    def test_ages(self):
        lines = ["hand", "block"]
        for age in range(130):
            told = None if 1 <= age <= 20 else (0, 2)
            self.assertEqual(refusal_of([f"note a @{age}"]), told)
            told = None if 1 <= age <= 20 else (2, 5)
            self.assertEqual(refusal_of(lines + [f"lay a b c d @{age}"]), told)
        for age in ("@", "@a", "@01", "@00", "@-1", "@@1", "@ 1", "1@", "@1.0", "@" + "9" * 60):
            self.refuse([f"note a {age}"], 0, 2)
            self.refuse(lines + [f"lay a {age}"], 2, 2)

    def test_age_ahead_of_the_first_field(self):
        self.refuse(["note @1"], 0, 1)
        self.refuse(["note @1 a"], 0, 1)
        self.refuse(["hand", "block", "lay @20"], 2, 1)
        self.refuse(["hand", "block", "lay @20 a"], 2, 1)

    def test_whatever_stands_behind_an_age(self):
        for word in ("a", "1", "@1", "@20", ">0", "", "?"):
            self.refuse([f"note a @1 {word}"], 0, 3)
            self.refuse(["hand", "block", f"lay a b @1 {word}"], 2, 4)

    def test_blocks(self):
        lines = ["hand", "block"]
        for number in range(130):
            # Up to 99 it can stand: then it is the later line that is told.
            can = number <= 99
            self.assertEqual(refusal_of(lines + [f"go >{number}", ""]), (3, 0) if can else (2, 1))
            self.assertEqual(refusal_of(lines + [f"look a >{number}", ""]), (3, 0) if can else (2, 2))
            self.assertEqual(refusal_of(lines + [f"same a b >{number}", ""]), (3, 0) if can else (2, 3))
        for word in (">", ">a", ">01", ">00", ">-1", ">>0", "0", "a", "@1", "?", ">" + "9" * 60):
            self.refuse(lines + [f"go {word}"], 2, 1)
            self.refuse(lines + [f"same a b {word}"], 2, 3)
            self.refuse(lines + [f"look a b c d {word}"], 2, 5)

    def test_whatever_stands_behind_a_block(self):
        for word in ("a", "1", ">0", "@1", "", "?"):
            self.refuse(["hand", "block", f"go >0 {word}"], 2, 2)
            self.refuse(["hand", "block", f"look a >0 {word}"], 2, 3)
            self.refuse(["hand", "block", f"same a b >0 {word}"], 2, 4)

    def test_names_of_a_block(self):
        lines = ["hand", "block"]
        for name in ("abcde", "A", "1", "a1", "=a", "?a", "", "@1", ">0"):
            self.refuse(lines + [f"block {name}"], 2, 1)
            self.refuse(lines + [f"block a {name}"], 2, 2)
            self.refuse(["hand", f"block {name}"], 1, 1)
        self.refuse(lines + ["block a a"], 2, 2)
        self.refuse(lines + ["block b a"], 2, 2)
        self.refuse(lines + ["block a c b"], 2, 3)
        self.refuse(lines + ["block a b c c"], 2, 4)
        self.refuse(lines + ["block b ab"], 2, 2)
        self.refuse(lines + ["block aa a"], 2, 2)
        self.refuse(lines + ["block a b c d e"], 2, 5)
        self.refuse(lines + ["block a b c d a"], 2, 5)
        self.refuse(lines + ["block a b c d e f"], 2, 5)

    def test_words_that_lack(self):
        lines = ["hand", "block"]
        self.refuse(["note"], 0, 1)
        for head in ("lay", "take", "read", "look", "same", "go"):
            self.refuse(lines + [head], 2, 1)
        self.refuse(lines + ["look a"], 2, 2)
        self.refuse(lines + ["look a b c"], 2, 4)
        self.refuse(lines + ["look a b c d"], 2, 5)
        self.refuse(lines + ["same a"], 2, 2)
        self.refuse(lines + ["same a b"], 2, 3)

    def test_look_and_same_ahead_of_the_block(self):
        lines = ["hand", "block"]
        self.refuse(lines + ["look >0"], 2, 1)
        self.refuse(lines + ["same >0"], 2, 1)
        self.refuse(lines + ["same a >0"], 2, 2)
        self.refuse(lines + ["same a b c"], 2, 3)
        self.refuse(lines + ["same a b c >0"], 2, 3)
        self.refuse(lines + ["go a >0"], 2, 1)

    def test_first_of_two_faults(self):
        self.refuse(["note ?", "no"], 0, 1)
        self.refuse(["note a", "note ? ?", "note"], 1, 1)
        self.refuse(["hand", "block", "go", "no"], 2, 1)
        self.refuse(["hand", "block b a", "hand"], 1, 2)
        self.refuse(["hand", "block", "look ? +n a b c"], 2, 2)
        self.refuse(["hand", "block", "lay a @0 @0"], 2, 2)
        self.refuse(["hand", "hand"], 1, 0)

    def test_many_lines_held_against_a_written_form(self):
        words = ["a", "b", "note", "7", "01", "?", "$", "?n", "=n", "+n", "@3", "@21", ">1", ">100", "", "abcdefghi"]
        fewer = ["a", "7", "?n", "=n", "@3", ">1"]
        for head in WORDS + ["no"]:
            ahead = [] if head in ("note", "hand") else ["hand"] if head == "block" else ["hand", "block"]
            chosen = [rest for many in range(4) for rest in itertools.product(words, repeat=many)]
            chosen += list(itertools.product(fewer, repeat=5))
            for rest in chosen:
                line = " ".join((head,) + rest)
                word = word_by_document(line)
                told = (len(ahead) + 1, 0) if word is None else (len(ahead), word)
                # The last line can't stand: so what isn't right in this one is not told.
                self.assertEqual(refusal_of(ahead + [line, ""]), told, line)


VALUE = r"(?:[a-z]{1,8}|[1-9]?[0-9])"
NAME = r"[a-z]{1,4}"
PATTERN_FIELD = rf"(?: (?:{VALUE}|\?|\$|\#|[?=]{NAME}))"
TEMPLATE_FIELD = rf"(?: (?:{VALUE}|[=+]{NAME}))"
TERM = rf"(?: (?:{VALUE}|={NAME}))"
AGE = r" @(?:[1-9]|1[0-9]|20)"
BLOCK = r" >[1-9]?[0-9]"
WHOLE = [rf"note(?: {VALUE}){{1,4}}(?:{AGE})?", "hand", rf"block(?: {NAME}){{0,4}}",
         rf"lay{TEMPLATE_FIELD}{{1,4}}(?:{AGE})?", rf"(?:take|read){PATTERN_FIELD}{{1,4}}",
         rf"look{PATTERN_FIELD}{{1,4}}{BLOCK}", rf"same{TERM}{{2}}{BLOCK}", rf"go{BLOCK}"]
BEGUN = WHOLE + ["note", "lay|take|read|go", rf"look{PATTERN_FIELD}{{0,4}}", rf"same{TERM}{{0,2}}"]


def is_one_of(text, forms):
    names = text.split(" ")[1:]
    if text.startswith("block") and any(one >= other for one, other in zip(names, names[1:])):
        return False
    return any(re.fullmatch(form, text) for form in forms)


def word_by_document(line):
    """Point 18 of one line: the first word behind which no line goes on; None where the line is whole."""
    words = line.split(" ")
    for k in range(len(words)):
        if not is_one_of(" ".join(words[:k + 1]), BEGUN):
            return k
    return None if is_one_of(line, WHOLE) else len(words)


class RightTest(TextTest):
    def test_first_block_wants_a_name(self):
        self.refuse(["hand", "block a"], 1, 1)
        self.refuse(["hand", "block a b c d"], 1, 1)
        self.refuse(["note a", "hand", "block a", "lay =a"], 2, 1)
        self.refuse(["hand", "block", "block a", "hand", "block a"], 4, 1)
        self.assertIsNone(refusal_of(["hand", "block", "block a", "hand", "block", "block a"]))

    def test_names_of_a_template(self):
        for sign in "=+":
            self.refuse(["hand", "block", f"lay {sign}n"], 2, 1)
            self.refuse(["hand", "block", f"lay n 1 {sign}n"], 2, 3)
            self.refuse(["hand", "block", f"lay a b c {sign}n @20"], 2, 4)
            self.refuse(["hand", "block", "take ?n", f"lay {sign}n {sign}m {sign}o"], 3, 2)
            self.refuse(["hand", "block", f"lay {sign}n", "take ?n"], 2, 1)
            self.refuse(["hand", "block", "block m", f"lay {sign}m {sign}n"], 3, 2)
            self.assertIsNone(refusal_of(["hand", "block", "block n", f"lay {sign}n"]))
            for act in ("take ?n", "read ?n", "look ?n >0"):
                self.assertIsNone(refusal_of(["hand", "block", act, f"lay {sign}n"]))
                self.refuse(["hand", "block", act, "block", f"lay {sign}n"], 4, 1)
                self.refuse(["hand", "block", act, "hand", "block", f"lay {sign}n"], 5, 1)

    def test_as_of_a_pattern(self):
        for head, more in (("take", ""), ("read", ""), ("look", " >0")):
            self.refuse(["hand", "block", f"{head} =n{more}"], 2, 1)
            self.refuse(["hand", "block", f"{head} =n ?n{more}"], 2, 1)
            self.refuse(["hand", "block", f"{head} ?m =n ?n{more}"], 2, 2)
            self.refuse(["hand", "block", f"{head} ?n =n a =m{more}"], 2, 4)
            self.assertIsNone(refusal_of(["hand", "block", f"{head} ?n =n =n{more}"]))
            self.assertIsNone(refusal_of(["hand", "block", "take ?n", f"{head} =n ?n =n{more}"]))
            self.assertIsNone(refusal_of(["hand", "block", "block n", f"{head} =n{more}"]))

    def test_terms(self):
        self.refuse(["hand", "block", "same =n a >0"], 2, 1)
        self.refuse(["hand", "block", "same a =n >0"], 2, 2)
        self.refuse(["hand", "block", "same =m =n >0"], 2, 1)
        self.refuse(["hand", "block", "take ?m", "same =m =n >0"], 3, 2)
        self.refuse(["hand", "block", "take ?n", "same =m =n >0"], 3, 1)
        self.assertIsNone(refusal_of(["hand", "block", "take ?m ?n", "same =m =n >0"]))

    def test_blocks_that_the_hand_has_not(self):
        for number in (1, 2, 5, 6, 10, 99):
            self.refuse(["hand", "block", f"go >{number}"], 2, 1)
            self.refuse(["hand", "block", f"look a b >{number}"], 2, 3)
            self.refuse(["hand", "block", f"same a b >{number}"], 2, 3)
        self.refuse(["hand", "block", "go >1", "hand", "block", "block"], 2, 1)
        self.refuse(["hand", "block", "block", "hand", "block", "go >1"], 5, 1)
        self.refuse(["hand"] + ["block"] * 6 + ["go >6"], 7, 1)
        self.assertIsNone(refusal_of(["hand", "block", "go >5"] + ["block"] * 5))

    def test_blocks_that_want_a_name(self):
        self.refuse(["hand", "block", "go >1", "block n"], 2, 1)
        self.refuse(["hand", "block", "look ? >1", "block n"], 2, 2)
        self.refuse(["hand", "block", "same a b >1", "block n"], 2, 3)
        self.refuse(["hand", "block", "take ?n", "go >1", "block m n"], 3, 1)
        self.refuse(["hand", "block", "take ?m", "go >1", "block m n"], 3, 1)
        self.refuse(["hand", "block", "go >1", "take ?n", "block n"], 2, 1)
        self.assertIsNone(refusal_of(["hand", "block", "take ?n ?m", "go >1", "block m n", "go >1"]))

    def test_what_a_look_binds_is_not_there_yet(self):
        self.refuse(["hand", "block", "look ?n >1", "block n"], 2, 2)
        self.assertIsNone(refusal_of(["hand", "block", "look ?n >0", "look ?n >1", "block n"]))

    def test_acts_behind_a_go(self):
        self.refuse(["hand", "block", "go >0", "lay =n"], 3, 1)
        self.refuse(["hand", "block", "go >0", "go >1"], 3, 1)
        self.assertIsNone(refusal_of(["hand", "block", "go >0", "take ?n", "lay =n"]))

    def test_first_of_two_faults(self):
        self.refuse(["hand", "block", "look =n ? >7"], 2, 1)
        self.refuse(["hand", "block", "same a =n >7"], 2, 2)
        self.refuse(["hand", "block", "take ?n", "look =n ? >7", "lay =m"], 3, 3)
        self.refuse(["hand", "block a", "lay =n"], 1, 1)
        self.refuse(["hand", "block", "lay =n", "hand", "block a"], 2, 1)
        self.refuse(["hand", "block", "go >1", "block n", "lay =m"], 2, 1)
        self.refuse(["hand", "block", "block n", "lay =m", "go >3", "hand", "block a"], 3, 1)
        self.refuse(["hand", "block", "lay +b =a"], 2, 1)

    def test_form_in_a_later_line_goes_ahead(self):
        wrong = ["hand", "block a", "lay =n", "go >9"]
        self.refuse(wrong, 1, 1)
        self.refuse(wrong + ["no"], 4, 0)
        self.refuse(wrong + ["lay"], 4, 1)
        self.refuse(wrong + ["lay =n ?n"], 4, 2)
        self.refuse(wrong + ["go >100"], 4, 1)
        self.refuse(wrong + ["hand"], 5, 0)
        self.refuse(wrong + ["note a"], 4, 0)
        self.refuse(["hand", "block", "look =n a b c d"], 2, 5)

    def test_lines_are_counted_with_notes_and_hands(self):
        lines = ["note a", "note b @3", "hand", "block", "go >0", "block n", "lay =n", "hand", "block", "take ?n"]
        self.assertIsNone(refusal_of(lines))
        self.refuse(lines + ["lay =n +m"], 10, 2)
        self.refuse(lines + ["block", "block m", "read a =n"], 12, 2)
        self.refuse(lines + ["hand", "block", "block m", "read a =n"], 13, 2)

    def test_each_act_of_plans_without_what_it_binds(self):
        for plan in PLANS:
            lines = shown_plan(plan)
            for k, line in enumerate(lines):
                changed = lines[:k] + [re.sub(r"\?(?=[a-z])", "=", line)] + lines[k + 1:]
                self.assertEqual(refusal_of(changed), refusal_by_document(changed), changed)

    def test_held_against_the_words_of_the_document(self):
        acts = ["take ?n =n", "take =n ?n", "lay +n =m", "look ?m =n >1", "same a =m >1", "go >1", "go >2", "read ?m"]
        for chosen in itertools.product(acts, repeat=3):
            for wanted in ("", " n", " m n"):
                lines = ["note a", "hand", "block", chosen[0], chosen[1], "block" + wanted, chosen[2]]
                self.assertEqual(refusal_of(lines), refusal_by_document(lines), lines)


def refusal_by_document(lines):
    """Point 19 read word by word, of lines that are right by form."""
    hands = []
    for number, line in enumerate(lines):
        words = line.split(" ")
        if words[0] == "hand":
            hands.append([])
        elif words[0] == "block":
            hands[-1].append([(number, words)])
        elif words[0] != "note":
            hands[-1][-1].append((number, words))
    for blocks in hands:
        wants = [rows[0][1][1:] for rows in blocks]
        for k, rows in enumerate(blocks):
            known = set(wants[k])
            if k == 0 and known:
                return (rows[0][0], 1)
            for number, words in rows[1:]:
                bound = set()
                for place, word in enumerate(words):
                    if place > 0 and word[0] in "=+" and word[1:] not in known | bound:
                        return (number, place)
                    if word[0] == ">" and (int(word[1:]) >= len(blocks) or set(wants[int(word[1:])]) - known):
                        return (number, place)
                    bound |= {word[1:]} if word[0] == "?" and word != "?" else set()
                known |= bound
    return None


if __name__ == "__main__":
    unittest.main()
