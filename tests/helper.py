"""What several tests share: plain things, right and wrong, plans and stands, and a second board to hold against."""

import random

from noteboard.errors import TooMany
from noteboard.plantexts import read_plan
from noteboard.programs import is_program, known_at
from noteboard.reaching import reached
from noteboard.stands import first_stand


def nested(depth, kind):
    thing = kind()
    for _ in range(depth - 1):
        thing = kind([thing])
    return thing


def plain_things():
    """Things of every plain kind that are right for none of the kinds told by DOC.md 3."""
    return [
        None, True, False, -1, 100, 101, 10 ** 59, -(10 ** 59),
        "", " ", "A", "Ab", "aB", "a b", "a\n", "\n", "1", "a1", "_", "~", "{", "`", "a-b", "abcdefghi", "x" * 20000,
        [], [1], ["a"], [("a",)], [("a",), None], ["take", (("any",),)],
        [[], []], ((), []), ([], ()), (None,), (True,), (("a", "b"),),
        nested(60, tuple), nested(60, list), [0] * 19999, ("a",) * 19999,
    ]


def spoiled(thing):
    """The thing, at one place within it of another kind: what is right is not right any more."""
    if isinstance(thing, tuple):
        yield list(thing)
        for k, part in enumerate(thing):
            for other in spoiled(part):
                yield thing[:k] + (other,) + thing[k + 1:]
    elif isinstance(thing, str):
        yield tuple(thing)
        yield list(thing)
        yield (thing,)
        yield thing.upper()
        yield thing + " "
        yield ""
    elif thing is None:
        yield False
        yield ()
        yield "none"
    else:
        yield thing == 1
        yield thing != 0
        yield -thing - 1
        yield str(thing)
        yield (thing,)
        yield [thing]


def check_judge(case, judge, right, wrong):
    for thing in right:
        with case.subTest(judge=judge.__name__, right=thing):
            case.assertIs(judge(thing), True)
        for other in spoiled(thing):
            with case.subTest(judge=judge.__name__, spoiled=other):
                case.assertIs(judge(other), False)
    for thing in wrong + plain_things():
        with case.subTest(judge=judge.__name__, wrong=repr(thing)[:200]):
            case.assertIs(judge(thing), False)


def program(*blocks):
    return tuple(blocks)


def block(wanted, *acts):
    """A block that wants the names of a text, parted by blanks."""
    return (tuple(wanted.split()), acts)


ANY = ("any",)
JOB = ("is", "job")
TAKE_N = ("take", (JOB, ("bind", "n")))
LAY_NEXT = ("lay", (("is", "done"), ("next", "n"), ("as", "n")), 20)

PROGRAMS = [
    program(block("")),
    program(block("", TAKE_N, LAY_NEXT, ("go", 0))),
    program(block("", ("read", (("word",), ("number",), ("bind", "b"), ("bind", "a"))), ("go", 1)),
            block("a b", ("same", ("as", "a"), ("as", "b"), 2), ("lay", (("as", "b"),), None)),
            block("", ("lay", (("is", 0),), 1))),
    program(block("", ("look", (JOB, ("bind", "n"), ("as", "n")), 1), ("look", (("as", "n"), ("bind", "m")), 2)),
            block("", ("go", 0)),
            block("n", ("take", (ANY, ("as", "n"), ("bind", "n"), ("as", "n"))), ("same", ("is", 99), ("as", "n"), 2)),
            block(""),
            block("m n", ("go", 3), ("lay", (("next", "m"), ("as", "n")), 7)),
            block("abcd n", ("go", 2))),
    program(block("", *[("take", (("bind", name),)) for name in ("d", "c", "b", "a", "abcd", "e", "d")], ("go", 1)),
            block("a abcd b e", ("take", (("is", "zzzzzzzz"), ("is", 99), ("is", 0), ANY)))),
]
NOTES = [(("job", 1), None), (("job", 2), 20), ((0,), 1), (("a", "note", 99, "zzzzzzzz"), None)]

PLANS = [((), ()), ((), tuple(NOTES)), (tuple(PROGRAMS), ()), (tuple(PROGRAMS), tuple(NOTES) * 3)]
PLANS += [((one,), (note,)) for one in PROGRAMS for note in NOTES]


def plan_of(text):
    """The plan of a text, its lines parted by "; "."""
    return read_plan([line for line in text.split("; ") if line])


def notes_of(text):
    """However many notes, written as in a plan's lines, parted by "; "."""
    return tuple([read_plan(["note " + note])[1][0] for note in text.split("; ") if note])


def at(number, place, **names):
    """A stand's hand."""
    return (number, place, tuple(sorted(names.items())))


VALUES = (0, 1, 99, "a", "b")


def made_field(source, heads):
    head = source.choice(heads)
    if head == "is":
        return (head, source.choice(VALUES))
    return (head, source.choice("mn")) if head in ("bind", "as", "next") else (head,)


def made_fields(source, heads):
    return tuple([made_field(source, heads) for _ in range(source.choice((1, 1, 1, 2, 2, 3)))])


def made_act(source, blocks):
    head = source.choice(("lay", "lay", "take", "read", "look", "same", "go"))
    number = source.randrange(blocks)
    if head == "lay":
        return (head, made_fields(source, ("is", "is", "as", "next")), source.choice((None, None, 1, 2, 20)))
    if head == "same":
        return (head, made_field(source, ("is", "as")), made_field(source, ("is", "as")), number)
    if head == "go":
        return (head, number)
    pattern = made_fields(source, ("is", "any", "word", "number", "bind", "bind", "as"))
    return (head, pattern, number) if head == "look" else (head, pattern)


def made_program(source):
    many = source.randint(1, 3)
    wanted = [()] + [tuple(sorted(source.sample("mn", source.choice((0, 0, 1, 2))))) for _ in range(many - 1)]
    blocks = [[names, ()] for names in wanted]
    for number in range(many):
        for _ in range(source.randint(0, 6)):
            # One that isn't right there is left out, so that what is told is a program.
            acts = blocks[number][1]
            blocks[number][1] = acts + (made_act(source, many),)
            if not is_program(tuple([tuple(one) for one in blocks])):
                blocks[number][1] = acts
    return tuple([tuple(one) for one in blocks])


def made_row(source):
    return tuple([source.choice(VALUES) for _ in range(source.choice((1, 1, 1, 2, 2, 3)))])


def made_notes(source, most):
    return tuple([(made_row(source), source.choice((None, None, 1, 2, 20))) for _ in range(source.randint(0, most))])


def made_plans(seed, many, hands=(0, 1, 2, 2, 3, 3), notes=4):
    """So many plans, ever the same ones for a seed."""
    source = random.Random(seed)
    return [(tuple([made_program(source) for _ in range(source.choice(hands))]), made_notes(source, notes))
            for _ in range(many)]


LOOPED = ("lay a", "lay b", "lay a @2", "lay c 1", "take a", "take a", "take b", "read a", "look b >0", "look ?n >0",
          "take ?n; lay =n b", "take c ?n; lay c +n", "take ?; lay a")


def made_loops(seed, many):
    """Plans of hands that mostly go round without end, and often lay without bound."""
    source = random.Random(seed)
    for _ in range(many):
        lines = ["note " + source.choice(("a", "b", "c 97", "a @2")) for _ in range(source.randint(0, 3))]
        for _ in range(source.choice((1, 2, 2, 3))):
            lines += ["hand", "block"] + [source.choice(LOOPED) for _ in range(source.randint(1, 3))]
            lines += source.choice((["go >0"], ["go >0"], []))
        yield plan_of("; ".join(lines))


def made_stand(source, programs, notes=6):
    """A right stand of the programs, whether a weaving leads to it or not."""
    hands = []
    for one in programs:
        number = source.randrange(len(one))
        place = source.randint(0, len(one[number][1]))
        hands.append((number, place, tuple([(name, source.choice(VALUES)) for name in known_at(one, number, place)])))
    return (tuple(hands), made_notes(source, notes))


A = ("notes", (("is", "a"),), 1)
ALWAYS = ("all", ())
NEVER = ("some", ())


def sight_of(text, many=1):
    """Of notes that fit a pattern, written as in a plan's lines."""
    return ("notes", plan_of(f"hand; block; take {text}")[0][0][0][1][0][1], many)


def steps_hand(many):
    """Lines of a hand that goes through just so many places, at most 49, whatever the others do."""
    lines = "hand; block"
    for k in range(many - 1):
        if k and k % 8 == 0:
            lines += "; block"
        lines += f"; go >{k // 8 + 1}" if k % 8 == 7 and k < many - 2 else "; same 1 1 >0"
    return lines


def steps_plan(*many):
    return plan_of("; ".join([steps_hand(one) for one in many]))


# A note counts 0 0, 0 1, .. 0 3, 1 0, .. 99 3, one hand moving at a time; then the hand ends.
COUNTING = plan_of("note c 0 0; hand; block; take c ?a ?b; same =b 3 >1; same =a 99 >2; "
                   "block a b; lay c =a +b; go >0; block a; lay c +a 0; go >0")


class Board:
    """A board that changes as DOC.md 22, 23 and 27 tell, written apart from the program, to hold it against."""

    def __init__(self, programs, stand):
        self.programs = programs
        self.hands = [[number, place, dict(names)] for number, place, names in stand[0]]
        self.notes = [[number, row, age] for number, (row, age) in enumerate(stand[1])]
        self.made = len(self.notes)

    def stand(self):
        hands = [(number, place, tuple(sorted(names.items()))) for number, place, names in self.hands]
        return (tuple(hands), tuple([(row, age) for number, row, age in self.notes]))

    def act(self, hand):
        number, place, names = self.hands[hand]
        return dict(enumerate(self.programs[hand][number][1])).get(place, ("ended",))

    def names_behind(self, pattern, row, names):
        here = {}
        for (head, *more), value in zip(pattern, row):
            number = isinstance(value, int)
            right = {"is": more == [value], "any": True, "word": not number, "number": number,
                     "as": {**names, **here}.get(*more) == value if head == "as" else None,
                     "bind": here.get(*more, value) == value if head == "bind" else None}[head]
            if not right:
                return None
            if head == "bind":
                here[more[0]] = value
        return {**names, **here} if len(pattern) == len(row) else None

    def found(self, hand):
        head, *more = self.act(hand)
        if head in ("take", "read", "look"):
            for note in self.notes:
                if self.names_behind(more[0], note[1], self.hands[hand][2]) is not None:
                    return note
        return None

    def is_ready(self, mover):
        if mover == len(self.hands):
            return True
        head = self.act(mover)[0]
        return head in ("lay", "look", "same", "go") or (head != "ended" and self.found(mover) is not None)

    def value(self, field, names):
        head, what = field
        value = what if head == "is" else names[what]
        return (value + 1) % 100 if head == "next" and isinstance(value, int) else value

    def move(self, mover):
        """Moves, and tells the row of the log."""
        if mover == len(self.hands):
            gone = [number for number, row, age in self.notes if age == 1]
            self.notes = [[number, row, age and age - 1] for number, row, age in self.notes if age != 1]
            return ("clock", tuple(gone))
        act = self.act(mover)
        hand = self.hands[mover]
        return getattr(self, act[0])(mover, hand, *act[1:])

    def lay(self, mover, hand, template, age):
        note = (tuple([self.value(field, hand[2]) for field in template]), age)
        self.notes.append([self.made, *note])
        self.made += 1
        hand[1] += 1
        return ("lays", mover, self.made - 1, note)

    def get(self, mover, hand, pattern):
        note = self.found(mover)
        hand[2] = self.names_behind(pattern, note[1], hand[2])
        hand[1] += 1
        return note

    def take(self, mover, hand, pattern):
        note = self.get(mover, hand, pattern)
        self.notes = [other for other in self.notes if other[0] != note[0]]
        return ("takes", mover, note[0])

    def read(self, mover, hand, pattern):
        return ("reads", mover, self.get(mover, hand, pattern)[0])

    def look(self, mover, hand, pattern, number):
        if self.found(mover) is None:
            self.go(mover, hand, number)
            return ("looks", mover, None)
        return ("looks", mover, self.get(mover, hand, pattern)[0])

    def same(self, mover, hand, one, other, number):
        if self.value(one, hand[2]) != self.value(other, hand[2]):
            return self.go(mover, hand, number)
        hand[1] += 1
        return ("goes", mover)

    def go(self, mover, hand, number):
        wanted = self.programs[mover][number][0]
        hand[:] = [number, 0, {name: hand[2][name] for name in wanted}]
        return ("goes", mover)


def made_sight(source, programs, depth):
    head = source.choice(("notes", "at", "ended", "not", "all", "some")[:None if depth else 3])
    if head in ("all", "some"):
        return (head, tuple([made_sight(source, programs, depth - 1) for _ in range(source.randint(0, 3))]))
    if head == "not":
        return (head, made_sight(source, programs, depth - 1))
    if head == "notes" or not programs:
        pattern = source.choice(("?", "#", "$", "a", "b", "0", "?n ?n", "? ?", "a ?", "?m ?n ?m"))
        return sight_of(pattern, source.randint(1, 3))
    hand = source.randrange(len(programs))
    number = source.randrange(len(programs[hand]))
    place = source.randint(0, len(programs[hand][number][1]))
    return ("ended", hand) if head == "ended" else ("at", hand, number, place)


def is_seen(board, sight):
    head, *more = sight
    if head == "notes":
        return sum([board.names_behind(more[0], row, {}) is not None for number, row, age in board.notes]) >= more[1]
    if head == "at":
        return board.hands[more[0]][:2] == more[1:]
    if head == "ended":
        return board.act(more[0]) == ("ended",)
    if head == "not":
        return not is_seen(board, more[0])
    truths = {is_seen(board, one) for one in more[0]}
    return False not in truths if head == "all" else True in truths


def leads(programs, stand):
    """The stands to which the ready movers lead, the clock too, by the second board."""
    told = []
    for mover in range(len(programs) + 1):
        board = Board(programs, stand)
        if board.is_ready(mover):
            board.move(mover)
            told.append(board.stand())
    return told


def distances(programs, stand):
    """Each stand come to, with the fewest moves to it, by the second board, made shorter till none is."""
    far = {stand: 0}
    pending = [stand]
    while pending:
        one = pending.pop()
        for behind in leads(programs, one):
            if far.get(behind, 10 ** 9) > far[one] + 1:
                far[behind] = far[one] + 1
                pending.append(behind)
    return far


def small_ones(seed, many):
    """Programs and stands from which few stands are come to."""
    source = random.Random(seed)
    for programs, notes in made_plans(seed, many, (0, 1, 1, 2, 2, 3), 3):
        for stand in (first_stand((programs, notes)), made_stand(source, programs, 3)):
            try:
                if len(reached(programs, stand)) <= 120:
                    yield programs, stand
            except TooMany:
                pass


def counted(having):
    """The counts of a dict with how many there are of each row, numbers ahead of words."""
    rows = sorted(having, key=lambda row: [(isinstance(value, str), value) for value in row])
    return tuple([(row, having[row]) for row in rows if having[row] != 0])


def counts_of(text):
    """Counts, written as rows with *MANY behind them, * alone for any many, parted by "; "."""
    counts = []
    for count in text.split("; ") if text else []:
        row, star, many = count.partition(" *")
        counts.append((notes_of(row)[0][0], None if star and not many else int(many or 1)))
    return tuple(counts)


def greatly(entry):
    """The counts of the entry as a dict, any many as a number greater than all that are told."""
    return {row: 10 ** 80 if many is None else many for row, many in entry[1]}


def is_under(one, other):
    few, many = greatly(one), greatly(other)
    return one[0] == other[0] and all([few.get(row, 0) <= many.get(row, 0) for row in {**few, **many}])


def made_entry(source, programs):
    rows = [made_row(source) for _ in range(source.randint(0, 5))]
    counts = counted({row: source.choice((1, 1, 2, 3, 10 ** 9, None)) for row in rows})
    return (made_stand(source, programs)[0], counts)


def entry_leads(programs, entry):
    """The steps of an entry as DOC.md 37 tells, by second boards with one note or none."""
    hands, counts = entry
    told = []
    for hand in range(len(programs)):
        head = Board(programs, entry).act(hand)[0]
        for row, many in counts if head in ("take", "read", "look") else ():
            board = Board(programs, (hands, ((row, None),)))
            if board.found(hand):
                board.move(hand)
                fewer = {row: many - 1} if head == "take" and many else {}
                told.append((board.stand()[0], counted({**dict(counts), **fewer})))
        board = Board(programs, (hands, ()))
        if board.is_ready(hand):
            board.move(hand)
            more = {row: dict(counts).get(row, 0) for number, row, age in board.notes}
            more = {row: None if many is None else many + 1 for row, many in more.items()}
            told.append((board.stand()[0], counted({**dict(counts), **more})))
    return [step for k, step in enumerate(told) if step not in told[:k]]
