"""Sights: which things are such, which are plain, and whether a stand sees one."""

from noteboard.moving import next_act
from noteboard.patterns import fits
from noteboard.patterns import is_headed
from noteboard.patterns import is_pattern
from noteboard.stands import is_placed
from noteboard.stands import is_within

MOST_SIGHTS = 40
MOST_ASKED = 9


def is_notes_sight(thing):
    if not is_headed(thing, "notes", 3) or not is_pattern(thing[1]):
        return False
    # Even one behind a bind of its name is left out: a sight's pattern has no as at all.
    if any([field[0] == "as" for field in thing[1]]):
        return False
    return is_within(thing[2], MOST_ASKED) and thing[2] >= 1


def is_hand(programs, thing):
    return is_within(thing, len(programs) - 1)


def is_at_sight(programs, thing):
    if not is_headed(thing, "at", 4) or not is_hand(programs, thing[1]):
        return False
    return is_placed(programs[thing[1]], thing[2:])


def is_ended_sight(programs, thing):
    return is_headed(thing, "ended", 2) and is_hand(programs, thing[1])


def is_made_of_others(thing):
    if is_headed(thing, "all", 2) or is_headed(thing, "some", 2):
        return isinstance(thing[1], tuple)
    return is_headed(thing, "not", 2)


def others_in(sight):
    """The things straight within it that are to be sights."""
    if sight[0] in ("all", "some"):
        return sight[1]
    return (sight[1],) if sight[0] == "not" else ()


def has_sight_form(programs, thing):
    if is_notes_sight(thing) or is_at_sight(programs, thing) or is_ended_sight(programs, thing):
        return True
    return is_made_of_others(thing)


def is_sight(programs, thing):
    # One after another, and no further than forty: a thing may hold thousands of others.
    pending = [thing]
    many = 0
    while pending:
        one = pending.pop()
        many += 1
        if many > MOST_SIGHTS or not has_sight_form(programs, one):
            return False
        pending.extend(others_in(one))
    return True


def is_plain(sight):
    return sight[0] != "not" and all([is_plain(other) for other in others_in(sight)])


def how_many_fit(pattern, notes):
    return len([note for note in notes if fits(pattern, note[0], ()) is not None])


def sees(programs, stand, sight):
    head = sight[0]
    if head == "notes":
        return how_many_fit(sight[1], stand[1]) >= sight[2]
    if head == "at":
        return stand[0][sight[1]][:2] == sight[2:]
    if head == "ended":
        return next_act(programs, stand, sight[1]) is None
    seen = [sees(programs, stand, other) for other in others_in(sight)]
    if head == "not":
        return not seen[0]
    return all(seen) if head == "all" else any(seen)
