import copy
import unittest

from helper import plain_things
from noteboard.kinds import are_alike, kind_of


class AlikeTest(unittest.TestCase):
    def test_each_thing_is_like_its_copy_alone(self):
        things = plain_things() + [0, 1, (), (1,), (1, 2), (2, 1), ((1,),), ([1],), [(1,)], "0", "a", ("a", (None, 1))]
        for one in things:
            for other in things:
                told = repr(one) == repr(other)
                self.assertIs(are_alike(one, copy.deepcopy(other)), told)

    def test_truths_are_no_numbers(self):
        for one, other in ((True, 1), (False, 0), ((True,), (1,)), ([0], [False]), ((("a", 1),), (("a", True),))):
            self.assertIs(are_alike(one, other), False)
            self.assertIs(are_alike(other, one), False)

    def test_lists_are_no_tuples(self):
        for one, other in (([], ()), ([1], (1,)), (([1],), ((1,),)), ([[]], [()])):
            self.assertIs(are_alike(one, other), False)
            self.assertIs(are_alike(other, one), False)

    def test_kinds(self):
        told = [kind_of(thing) for thing in (None, True, False, 0, -1, "", "a", (), (1,), [], [1])]
        self.assertEqual(told, "none truth truth number number text text tuple tuple list list".split())


if __name__ == "__main__":
    unittest.main()
