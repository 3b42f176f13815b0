"""Plain things, right and wrong, that several tests hand to the judges."""


def nested(depth, kind):
    thing = kind()
    for _ in range(depth - 1):
        thing = kind([thing])
    return thing


def plain_things():
    """Things of every plain kind that are right for none of the kinds told by DOC.md 3."""
    return [
        None, True, False, -1, 100, 101, 10 ** 59, -(10 ** 59),
        "", " ", "A", "Ab", "aB", "a b", "a\n", "\n", "1", "a1", "_", "~", "{", "`", "a-b", "abcdefghi", "x" * 20000,
        [], [1], ["a"], [("a",)], [("a",), None], ["take", (("any",),)],
        [[], []], ((), []), ([], ()), (None,), (True,), (("a", "b"),),
        nested(60, tuple), nested(60, list), [0] * 19999, ("a",) * 19999,
    ]


def spoiled(thing):
    """The thing, at one place within it of another kind: what is right is not right any more."""
    if isinstance(thing, tuple):
        yield list(thing)
        for k, part in enumerate(thing):
            for other in spoiled(part):
                yield thing[:k] + (other,) + thing[k + 1:]
    elif isinstance(thing, str):
        yield tuple(thing)
        yield list(thing)
        yield (thing,)
        yield thing.upper()
        yield thing + " "
        yield ""
    elif thing is None:
        yield False
        yield ()
        yield "none"
    else:
        yield thing == 1
        yield thing != 0
        yield -thing - 1
        yield str(thing)
        yield (thing,)
        yield [thing]


def check_judge(case, judge, right, wrong):
    for thing in right:
        with case.subTest(judge=judge.__name__, right=thing):
            case.assertIs(judge(thing), True)
        for other in spoiled(thing):
            with case.subTest(judge=judge.__name__, spoiled=other):
                case.assertIs(judge(other), False)
    for thing in wrong + plain_things():
        with case.subTest(judge=judge.__name__, wrong=repr(thing)[:200]):
            case.assertIs(judge(thing), False)
