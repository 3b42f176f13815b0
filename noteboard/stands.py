"""Stands of programs: the first one of a plan, and what is not so of a thing as a stand."""

from noteboard.programs import known_at
from noteboard.values import is_name
from noteboard.values import is_note
from noteboard.values import is_value
from noteboard.values import is_whole


def first_stand(plan):
    return (tuple([(0, 0, ()) for program in plan[0]]), tuple(plan[1]))


def is_named_value(thing):
    return isinstance(thing, tuple) and len(thing) == 2 and is_name(thing[0]) and is_value(thing[1])


def is_names(thing):
    if not isinstance(thing, tuple) or not all([is_named_value(pair) for pair in thing]):
        return False
    return all([one[0] < other[0] for one, other in zip(thing, thing[1:])])


def has_hands_form(thing):
    return isinstance(thing, tuple) and all([isinstance(hand, tuple) and len(hand) == 3 for hand in thing])


def has_stand_form(thing):
    if not isinstance(thing, tuple) or len(thing) != 2:
        return False
    return has_hands_form(thing[0]) and isinstance(thing[1], tuple)


def is_within(thing, most):
    return is_whole(thing) and 0 <= thing <= most


def is_placed(program, hand):
    return is_within(hand[0], len(program) - 1) and is_within(hand[1], len(program[hand[0]][1]))


def has_known_names(program, hand):
    if not is_names(hand[2]):
        return False
    return tuple([pair[0] for pair in hand[2]]) == known_at(program, hand[0], hand[1])


def fault_of(programs, thing):
    if not has_stand_form(thing):
        return "form"
    hands = thing[0]
    if len(hands) != len(programs):
        return "hands"
    if not all([is_placed(program, hand) for program, hand in zip(programs, hands)]):
        return "place"
    if not all([has_known_names(program, hand) for program, hand in zip(programs, hands)]):
        return "names"
    if not all([is_note(note) for note in thing[1]]):
        return "notes"
    return None
