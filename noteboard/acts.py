"""Acts and blocks, by form alone: whatever names are known, whatever blocks there are."""

from noteboard.patterns import is_headed
from noteboard.patterns import is_pattern
from noteboard.patterns import is_template
from noteboard.patterns import is_term
from noteboard.values import is_age
from noteboard.values import is_name
from noteboard.values import is_whole

MOST_WANTED = 4
MOST_ACTS = 8


def is_block_number(thing):
    return is_whole(thing) and thing >= 0


def is_lay(thing):
    return is_headed(thing, "lay", 3) and is_template(thing[1]) and is_age(thing[2])


def is_take(thing):
    return is_headed(thing, "take", 2) and is_pattern(thing[1])


def is_read(thing):
    return is_headed(thing, "read", 2) and is_pattern(thing[1])


def is_look(thing):
    return is_headed(thing, "look", 3) and is_pattern(thing[1]) and is_block_number(thing[2])


def is_same(thing):
    if not is_headed(thing, "same", 4):
        return False
    return is_term(thing[1]) and is_term(thing[2]) and is_block_number(thing[3])


def is_go(thing):
    return is_headed(thing, "go", 2) and is_block_number(thing[1])


def is_act(thing):
    if is_lay(thing) or is_take(thing) or is_read(thing):
        return True
    return is_look(thing) or is_same(thing) or is_go(thing)


def is_wanted(thing):
    if not isinstance(thing, tuple) or len(thing) > MOST_WANTED:
        return False
    if not all([is_name(name) for name in thing]):
        return False
    return all([one < other for one, other in zip(thing, thing[1:])])


def is_acts(thing):
    return isinstance(thing, tuple) and len(thing) <= MOST_ACTS and all([is_act(act) for act in thing])


def is_block(thing):
    return isinstance(thing, tuple) and len(thing) == 2 and is_wanted(thing[0]) and is_acts(thing[1])
