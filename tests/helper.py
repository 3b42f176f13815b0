"""Plain things, right and wrong, that several tests hand to the judges."""


def nested(depth, kind):
    thing = kind()
    for _ in range(depth - 1):
        thing = kind([thing])
    return thing


def plain_things():
    """Things of every plain kind that are right for none of the kinds told by DOC.md 3."""
    return [
        None, True, False, -1, 100, 101, 10 ** 59, -(10 ** 59),
        "", " ", "A", "Ab", "aB", "a b", "a\n", "\n", "1", "a1", "_", "~", "{", "`", "a-b", "abcdefghi", "x" * 20000,
        [], [1], ["a"], [("a",)], [("a",), None], ["take", (("any",),)],
        [[], []], ((), []), ([], ()), (None,), (True,), (("a", "b"),),
        nested(60, tuple), nested(60, list), [0] * 19999, ("a",) * 19999,
    ]


def spoiled(thing):
    """The thing, at one place within it of another kind: what is right is not right any more."""
    if isinstance(thing, tuple):
        yield list(thing)
        for k, part in enumerate(thing):
            for other in spoiled(part):
                yield thing[:k] + (other,) + thing[k + 1:]
    elif isinstance(thing, str):
        yield tuple(thing)
        yield list(thing)
        yield (thing,)
        yield thing.upper()
        yield thing + " "
        yield ""
    elif thing is None:
        yield False
        yield ()
        yield "none"
    else:
        yield thing == 1
        yield thing != 0
        yield -thing - 1
        yield str(thing)
        yield (thing,)
        yield [thing]


def check_judge(case, judge, right, wrong):
    for thing in right:
        with case.subTest(judge=judge.__name__, right=thing):
            case.assertIs(judge(thing), True)
        for other in spoiled(thing):
            with case.subTest(judge=judge.__name__, spoiled=other):
                case.assertIs(judge(other), False)
    for thing in wrong + plain_things():
        with case.subTest(judge=judge.__name__, wrong=repr(thing)[:200]):
            case.assertIs(judge(thing), False)


def program(*blocks):
    return tuple(blocks)


def block(wanted, *acts):
    """A block that wants the names of a text, parted by blanks."""
    return (tuple(wanted.split()), acts)


ANY = ("any",)
JOB = ("is", "job")
TAKE_N = ("take", (JOB, ("bind", "n")))
LAY_NEXT = ("lay", (("is", "done"), ("next", "n"), ("as", "n")), 20)

PROGRAMS = [
    program(block("")),
    program(block("", TAKE_N, LAY_NEXT, ("go", 0))),
    program(block("", ("read", (("word",), ("number",), ("bind", "b"), ("bind", "a"))), ("go", 1)),
            block("a b", ("same", ("as", "a"), ("as", "b"), 2), ("lay", (("as", "b"),), None)),
            block("", ("lay", (("is", 0),), 1))),
    program(block("", ("look", (JOB, ("bind", "n"), ("as", "n")), 1), ("look", (("as", "n"), ("bind", "m")), 2)),
            block("", ("go", 0)),
            block("n", ("take", (ANY, ("as", "n"), ("bind", "n"), ("as", "n"))), ("same", ("is", 99), ("as", "n"), 2)),
            block(""),
            block("m n", ("go", 3), ("lay", (("next", "m"), ("as", "n")), 7)),
            block("abcd n", ("go", 2))),
    program(block("", *[("take", (("bind", name),)) for name in ("d", "c", "b", "a", "abcd", "e", "d")], ("go", 1)),
            block("a abcd b e", ("take", (("is", "zzzzzzzz"), ("is", 99), ("is", 0), ANY)))),
]
NOTES = [(("job", 1), None), (("job", 2), 20), ((0,), 1), (("a", "note", 99, "zzzzzzzz"), None)]

PLANS = [((), ()), ((), tuple(NOTES)), (tuple(PROGRAMS), ()), (tuple(PROGRAMS), tuple(NOTES) * 3)]
PLANS += [((one,), (note,)) for one in PROGRAMS for note in NOTES]
