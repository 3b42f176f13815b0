"""Programs and plans: which things are such, and the names that are known at each place of a block."""

from noteboard.acts import is_block
from noteboard.patterns import binds
from noteboard.values import is_note

MOST_BLOCKS = 6
MOST_PROGRAMS = 5
MOST_NOTES = 12
GETTING = ("take", "read", "look")
LEADING = ("look", "same", "go")


def known_at(program, block, place):
    wanted = program[block][0]
    acts = program[block][1]
    known = list(wanted)
    for act in acts[:place]:
        if act[0] in GETTING:
            known.extend(binds(act[1]))
    return tuple(sorted(set(known)))


def fields_of(act):
    if act[0] == "same":
        return act[1:3]
    return () if act[0] == "go" else act[1]


def first_unknown(fields, known):
    for k, field in enumerate(fields):
        # Only a pattern has fields that bind; of a template and of terms all names must be known ahead.
        if field[0] in ("as", "next") and field[1] not in known and field[1] not in binds(fields[:k]):
            return k
    return None


def can_lead(program, block, known):
    return block < len(program) and all([name in known for name in program[block][0]])


def wrong_word(program, block, place):
    """The first word of the act's line, from 0, that is not right there; None where the act is right."""
    act = program[block][1][place]
    known = known_at(program, block, place)
    fields = fields_of(act)
    unknown = first_unknown(fields, known)
    if unknown is not None:
        return 1 + unknown
    if act[0] in LEADING and not can_lead(program, act[-1], known):
        return 1 + len(fields)
    return None


def has_right_acts(program, block):
    acts = program[block][1]
    return all([wrong_word(program, block, place) is None for place in range(len(acts))])


def is_blocks(thing):
    if not isinstance(thing, tuple) or not 1 <= len(thing) <= MOST_BLOCKS:
        return False
    return all([is_block(block) for block in thing])


def is_program(thing):
    if not is_blocks(thing) or thing[0][0] != ():
        return False
    return all([has_right_acts(thing, block) for block in range(len(thing))])


def is_programs(thing):
    if not isinstance(thing, tuple) or len(thing) > MOST_PROGRAMS:
        return False
    return all([is_program(program) for program in thing])


def is_plan_notes(thing):
    return isinstance(thing, tuple) and len(thing) <= MOST_NOTES and all([is_note(note) for note in thing])


def is_plan(thing):
    return isinstance(thing, tuple) and len(thing) == 2 and is_programs(thing[0]) and is_plan_notes(thing[1])
