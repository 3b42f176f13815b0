"""Moves: which hands are ready, what a hand gets, and the stand to which a mover leads."""

from noteboard.errors import NotReady
from noteboard.patterns import field_value
from noteboard.patterns import filled
from noteboard.patterns import fits
from noteboard.programs import GETTING
from noteboard.stands import is_within


def next_act(programs, stand, hand):
    """The act that the hand does next; None where it has ended."""
    block = stand[0][hand][0]
    place = stand[0][hand][1]
    acts = programs[hand][block][1]
    return acts[place] if place < len(acts) else None


def gets(programs, stand, hand):
    act = next_act(programs, stand, hand)
    if act is None or act[0] not in GETTING:
        return None
    names = stand[0][hand][2]
    # Boards that grow without bound have few unlike rows: each is held against the pattern once.
    tried = {}
    for place, note in enumerate(stand[1]):
        if note[0] not in tried:
            if fits(act[1], note[0], names) is not None:
                return place
            tried[note[0]] = True
    return None


def is_ready(programs, stand, hand):
    act = next_act(programs, stand, hand)
    if act is None:
        return False
    # A look that gets none goes elsewhere; only a take and a read wait.
    return act[0] not in ("take", "read") or gets(programs, stand, hand) is not None


def ready(programs, stand):
    return [hand for hand in range(len(programs)) if is_ready(programs, stand, hand)]


def gone_on(place, names):
    return (place[0], place[1] + 1, names)


def gone_to(program, block, names):
    wanted = program[block][0]
    return (block, 0, tuple([pair for pair in names if pair[0] in wanted]))


def with_hand(hands, hand, place):
    return hands[:hand] + (place,) + hands[hand + 1:]


def got(programs, stand, hand, act):
    """The stand behind a take, read or look; None where the hand waits."""
    place = stand[0][hand]
    notes = stand[1]
    number = gets(programs, stand, hand)
    if number is None:
        if act[0] != "look":
            return None
        return (with_hand(stand[0], hand, gone_to(programs[hand], act[2], place[2])), notes)
    names = fits(act[1], notes[number][0], place[2])
    if act[0] == "take":
        notes = notes[:number] + notes[number + 1:]
    return (with_hand(stand[0], hand, gone_on(place, names)), notes)


def is_same_value(act, names):
    having = dict(names)
    return field_value(act[1], having) == field_value(act[2], having)


def hand_moved(programs, stand, hand):
    """The stand behind the hand's next act; None where it has ended or waits."""
    act = next_act(programs, stand, hand)
    if act is None:
        return None
    if act[0] in GETTING:
        return got(programs, stand, hand, act)
    place = stand[0][hand]
    notes = stand[1]
    names = place[2]
    if act[0] == "lay":
        notes = notes + ((filled(act[1], names), act[2]),)
        place = gone_on(place, names)
    elif act[0] == "same" and is_same_value(act, names):
        place = gone_on(place, names)
    else:
        place = gone_to(programs[hand], act[-1], names)
    return (with_hand(stand[0], hand, place), notes)


def aged(note):
    return note if note[1] is None else (note[0], note[1] - 1)


def clock_moved(stand):
    return (stand[0], tuple([aged(note) for note in stand[1] if note[1] != 1]))


def after(programs, stand, mover):
    """The stand to which a mover leads; None where the thing, any plain one, is no mover that is ready."""
    clock = len(programs)
    if not is_within(mover, clock):
        return None
    return clock_moved(stand) if mover == clock else hand_moved(programs, stand, mover)


def moved(programs, stand, mover):
    behind = after(programs, stand, mover)
    if behind is None:
        raise NotReady(0)
    return behind
