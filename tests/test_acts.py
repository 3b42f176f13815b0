import copy
import unittest

from helper import check_judge, plain_things
from noteboard.acts import is_act, is_block

PATTERN = (("is", "job"), ("bind", "n"), ("any",), ("as", "m"))
TEMPLATE = (("is", "done"), ("as", "n"), ("next", "n"))
SHORT_PATTERNS = [(("any",),), (("number",), ("word",)), (("bind", "n"), ("bind", "n"))]
SHORT_TEMPLATES = [(("is", 1),), (("next", "n"),), (("as", "n"), ("is", "a"))]
NO_PATTERNS = [(), [], (("any",),) * 5, (("next", "n"),), [("any",)], (["any"],), ("any",), (("is", True),),
               (("bind", "abcde"),), (("is", 100),), None, 1, "any", (("any",), ("no",))]
NO_TEMPLATES = [(), [], (("is", 1),) * 5, (("any",),), (("word",),), (("number",),), (("bind", "n"),), [("is", 1)],
                (["is", 1],), ("is", 1), (("is", True),), (("as", "abcde"),), (("is", 100),), None, 1, "is"]
TERMS = [("is", 0), ("is", 99), ("is", "word"), ("as", "n"), ("as", "abcd")]
NO_TERMS = [("next", "n"), ("bind", "n"), ("any",), ("word",), ("number",), ("is",), ("as",), ("is", 100), ("is", -1),
            ("is", True), ("is", None), ("is", "abcdefghi"), ("as", "abcde"), ("as", 1), ("as", ""), ["is", 1],
            ["as", "n"], (("is", 1),), "n", 1, None, (), ("is", 1, 1), ("as", "n", "n"), ("is", ("a",))]
BLOCKS = [0, 1, 2, 5, 6, 7, 99, 100, 10 ** 59]
NO_BLOCKS = [-1, -2, -(10 ** 59), True, False, None, "0", "", "a", (), (0,), [], [0], ((0,),)]
AGES = [None, 1, 2, 19, 20]
NO_AGES = [0, 21, -1, 100, True, False, "1", "", (), (1,), [1]]

LAYS = [("lay", template, age) for template in SHORT_TEMPLATES + [TEMPLATE] for age in AGES]
TAKES = [("take", pattern) for pattern in SHORT_PATTERNS + [PATTERN]]
READS = [("read", pattern) for pattern in SHORT_PATTERNS + [PATTERN]]
LOOKS = [("look", pattern, block) for pattern in SHORT_PATTERNS + [PATTERN] for block in BLOCKS]
SAMES = [("same", one, other, 3) for one in TERMS for other in TERMS]
SAMES += [("same", ("is", 1), ("as", "n"), block) for block in BLOCKS]
GOES = [("go", block) for block in BLOCKS]
ACTS = LAYS + TAKES + READS + LOOKS + SAMES + GOES
SIX = [("lay", TEMPLATE, None), ("take", PATTERN), ("read", PATTERN), ("look", PATTERN, 0),
       ("same", ("is", 1), ("as", "n"), 0), ("go", 0)]


class ActsTest(unittest.TestCase):
    def test_acts(self):
        check_judge(self, is_act, ACTS, [])

    def refuse(self, things):
        for thing in things:
            with self.subTest(thing=thing):
                self.assertIs(is_act(thing), False)

    def test_one_thing_more(self):
        for act in ACTS:
            self.refuse([act + (more,) for more in (None, 0, 1, "a", (), PATTERN, TEMPLATE, ("is", 1))])

    def test_one_thing_fewer(self):
        for act in ACTS:
            self.refuse([act[:k] + act[k + 1:] for k in range(len(act))])

    def test_bare_words(self):
        for word in ("lay", "take", "read", "look", "same", "go"):
            self.refuse([word, (word,), [word], ((word,),)])

    def test_no_such_word(self):
        for act in SIX:
            self.refuse([(head,) + act[1:] for head in ("no", "", "Lay", "lays", None, 1, True, ("go",), ["go"], "is")])

    def test_words_with_the_things_of_others(self):
        shapes = [act[1:] for act in SIX]
        right = [(1, 2), (2, 1)]
        for k, act in enumerate(SIX):
            for n, shape in enumerate(shapes):
                with self.subTest(word=act[0], shape=shape):
                    self.assertIs(is_act((act[0],) + shape), k == n or (k, n) in right)

    def test_lay(self):
        self.refuse([("lay", thing, age) for thing in NO_TEMPLATES for age in AGES])
        self.refuse([("lay", TEMPLATE, age) for age in NO_AGES])
        self.refuse([("lay", None, TEMPLATE), ("lay", 1, TEMPLATE), ("lay", PATTERN, None), ["lay", TEMPLATE, None]])
        for age in range(-25, 125):
            self.assertIs(is_act(("lay", TEMPLATE, age)), 1 <= age <= 20)

    def test_take_and_read(self):
        for word in ("take", "read"):
            self.refuse([(word, thing) for thing in NO_PATTERNS + [TEMPLATE, 0, (("next", "n"),)]])
            self.refuse([(word, PATTERN, None), (word, PATTERN, 0), (word, PATTERN, 1), [word, PATTERN]])

    def test_look(self):
        self.refuse([("look", thing, block) for thing in NO_PATTERNS + [TEMPLATE] for block in (0, 1)])
        self.refuse([("look", PATTERN, block) for block in NO_BLOCKS])
        self.refuse([("look", 0, PATTERN), ("look", PATTERN), ["look", PATTERN, 0]])

    def test_same(self):
        for term in TERMS:
            self.refuse([("same", term, thing, 0) for thing in NO_TERMS])
            self.refuse([("same", thing, term, 0) for thing in NO_TERMS])
        self.refuse([("same", ("is", 1), ("as", "n"), block) for block in NO_BLOCKS])
        self.refuse([("same", 0, ("is", 1), ("as", "n")), ("same", (("is", 1), ("is", 1)), 0)])

    def test_go(self):
        self.refuse([("go", block) for block in NO_BLOCKS])
        self.refuse([("go",), ("go", 0, 0), ("go", PATTERN), ["go", 0]])

    def test_form_alone(self):
        self.assertIs(is_act(("lay", (("as", "zz"), ("next", "yy")), None)), True)
        self.assertIs(is_act(("take", (("as", "zz"),))), True)
        self.assertIs(is_act(("same", ("as", "zz"), ("as", "yy"), 77)), True)
        self.assertIs(is_act(("go", 10 ** 59)), True)


class BlocksTest(unittest.TestCase):
    def test_blocks(self):
        names = [(), ("a",), ("abcd",), ("a", "b"), ("a", "ab", "b"), ("a", "b", "c", "d"), ("a", "aa", "aaa", "aaaa")]
        right = [(wanted, ()) for wanted in names] + [(wanted, tuple(SIX)) for wanted in names]
        right += [((), (act,)) for act in ACTS] + [(("n",), (act,) * 8) for act in SIX]
        wrong = ACTS + [(), ((),), ((), (), ()), [(), ()], ((), []), ([], ()), (None, ()), ((), None), ("", ()), ((), "")]
        wrong += [(tuple(SIX), ()), (tuple(SIX), ("n",)), ((), ("n",)), ((), SIX[0]), ((), SIX), (["n"], ()), ("n", ())]
        check_judge(self, is_block, right, wrong)

    def refuse(self, things):
        for thing in things:
            with self.subTest(thing=thing):
                self.assertIs(is_block(thing), False)

    def test_wanted_names(self):
        bad = [("b", "a"), ("a", "a"), ("a", "b", "b"), ("a", "c", "b"), ("b", "a", "c"), ("a", "b", "c", "c"),
               ("a", "b", "d", "c"), ("a", "b", "c", "d", "e"), ("b", "ab"), ("aa", "a"), ("abcde",), ("a", "abcde"),
               ("",), ("", "a"), ("A",), ("A", "a"), (1,), (0, 1), (None,), (True,), ("a", 1), (("a",),), (["a"],),
               ("a", ("b",)), (("a", 1),), (("a", 1), ("b", 2)), ("a b",), ("a", "b", "c", "d", "e", "f")]
        self.refuse([(wanted, acts) for wanted in bad for acts in ((), tuple(SIX))])

    def test_how_many_names(self):
        for many in range(9):
            self.assertIs(is_block((tuple("abcdefghi"[:many]), ())), many <= 4)

    def test_how_many_acts(self):
        for act in SIX:
            for many in range(13):
                self.assertIs(is_block(((), (act,) * many)), many <= 8)

    def test_each_act_is_looked_at(self):
        for bad in [(), ("go",), ("go", -1), ("go", True), ["go", 0], ("take", ()), ("lay", TEMPLATE, 0), None, 0, "go"]:
            for many in range(8):
                for k in range(many + 1):
                    acts = [("go", 0)] * many
                    acts.insert(k, bad)
                    self.refuse([((), tuple(acts))])

    def test_form_alone(self):
        self.assertIs(is_block(((), (("go", 99), ("take", (("as", "zz"),))))), True)
        self.assertIs(is_block((("n",), (("lay", (("as", "m"),), 20), ("look", (("any",),), 5)))), True)

    def test_judges_change_nothing(self):
        things = plain_things() + [[["n"], [["go", 0]]], (["n"], [("take", [["any"]])])]
        before = copy.deepcopy(things)
        for thing in things:
            is_act(thing)
            is_block(thing)
        self.assertEqual(things, before)


if __name__ == "__main__":
    unittest.main()
