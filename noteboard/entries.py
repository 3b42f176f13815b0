"""Entries: hands with counts of rows that bound how many notes lie. Which things are such, their order and steps."""

from noteboard.moving import gone_on
from noteboard.moving import hand_moved
from noteboard.moving import next_act
from noteboard.moving import with_hand
from noteboard.patterns import fits
from noteboard.programs import GETTING
from noteboard.sights import others_in
from noteboard.sights import sees
from noteboard.stands import fault_of
from noteboard.values import ahead
from noteboard.values import in_order
from noteboard.values import is_row
from noteboard.values import is_whole


def is_many(thing):
    return thing is None or (is_whole(thing) and thing >= 1)


def is_count(thing):
    return isinstance(thing, tuple) and len(thing) == 2 and is_row(thing[0]) and is_many(thing[1])


def is_counts(thing):
    if not isinstance(thing, tuple) or not all([is_count(count) for count in thing]):
        return False
    return all([ahead(one[0], other[0]) for one, other in zip(thing, thing[1:])])


def is_entry(programs, thing):
    if not isinstance(thing, tuple) or len(thing) != 2:
        return False
    # Its hands are right where they are those of a stand without notes.
    return fault_of(programs, (thing[0], ())) is None and is_counts(thing[1])


def counts_of(having):
    """The counts, in order, of a dict with how many there are of each row."""
    return tuple([(row, having[row]) for row in in_order(list(having))])


def entry_of(stand):
    having = {}
    for note in stand[1]:
        having[note[0]] = having.get(note[0], 0) + 1
    return (stand[0], counts_of(having))


def is_no_more(many, most):
    # None is more than all numbers, and no more than itself.
    if most is None:
        return True
    return many is not None and many <= most


def has_no_more(counts, having):
    """Whether of each row no more is counted than the dict has, which has none of those that it doesn't tell."""
    for row, many in counts:
        if not is_no_more(many, having.get(row, 0)):
            return False
    return True


def under(one, other):
    return one[0] == other[0] and has_no_more(one[1], dict(other[1]))


def below(stand, entry):
    return under(entry_of(stand), entry)


def one_more(counts, row):
    having = dict(counts)
    many = having.get(row, 0)
    having[row] = None if many is None else many + 1
    return counts_of(having)


def one_fewer(counts, row):
    having = dict(counts)
    many = having[row]
    having[row] = None if many is None else many - 1
    return tuple([(other, having[other]) for other in having if having[other] != 0])


def getting_steps(entry, hand, act):
    """The steps by which the hand gets a note: one for each row that fits."""
    place = entry[0][hand]
    steps = []
    for row, many in entry[1]:
        names = fits(act[1], row, place[2])
        if names is not None:
            counts = one_fewer(entry[1], row) if act[0] == "take" else entry[1]
            steps.append((with_hand(entry[0], hand, gone_on(place, names)), counts))
    return steps


def hand_steps(programs, entry, hand):
    act = next_act(programs, entry, hand)
    if act is None:
        return []
    steps = getting_steps(entry, hand, act) if act[0] in GETTING else []
    # On a board without notes a take or read waits, a look goes to its block, and just what was laid lies behind.
    behind = hand_moved(programs, (entry[0], ()), hand)
    if behind is not None:
        counts = one_more(entry[1], behind[1][0][0]) if act[0] == "lay" else entry[1]
        steps.append((behind[0], counts))
    return steps


def entry_steps(programs, entry):
    steps = {}
    for hand in range(len(programs)):
        for step in hand_steps(programs, entry, hand):
            steps[step] = True
    return list(steps)


def has_enough(counts, pattern, many):
    fitting = [count[1] for count in counts if fits(pattern, count[0], ()) is not None]
    return None in fitting or sum(fitting) >= many


def entry_sees(programs, entry, sight):
    head = sight[0]
    if head == "notes":
        return has_enough(entry[1], sight[1], sight[2])
    if head in ("at", "ended"):
        # These ask for the hands alone, which an entry has as a stand has.
        return sees(programs, entry, sight)
    seen = [entry_sees(programs, entry, other) for other in others_in(sight)]
    return all(seen) if head == "all" else any(seen)
