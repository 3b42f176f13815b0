"""Closed lists and papers of never: which things are such."""

from noteboard.moving import after
from noteboard.patterns import is_headed
from noteboard.sights import sees
from noteboard.stands import fault_of
from noteboard.weaving import led


def is_stands(programs, thing):
    return isinstance(thing, list) and all([fault_of(programs, one) is None for one in thing])


def leads_within(programs, stand, stands):
    """Whether each ready mover leads from the stand to one of these."""
    led_to = [after(programs, stand, mover) for mover in range(len(programs) + 1)]
    return all([behind is None or behind in stands for behind in led_to])


def lets_closed(programs, stand, thing):
    if not is_stands(programs, thing):
        return False
    # Each is looked at once, however often it is told.
    stands = dict([(one, True) for one in thing])
    return stand in stands and all([leads_within(programs, one, stands) for one in stands])


def shows_never(programs, stand, sight, thing):
    if not lets_closed(programs, stand, thing):
        return False
    return not any([sees(programs, one, sight) for one in thing])


def shows_seen(programs, stand, sight, thing):
    behind = led(programs, stand, thing)
    return behind is not None and sees(programs, behind, sight)


def lets_never(programs, stand, sight, thing):
    if is_headed(thing, "never", 2):
        return shows_never(programs, stand, sight, thing[1])
    return is_headed(thing, "seen", 2) and shows_seen(programs, stand, sight, thing[1])
