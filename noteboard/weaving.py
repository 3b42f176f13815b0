"""Weavings: the stand to which movers lead, and the movers by turns."""

from noteboard.errors import NotReady
from noteboard.moving import after
from noteboard.moving import ready


def woven(programs, stand, movers):
    for place, mover in enumerate(movers):
        stand = after(programs, stand, mover)
        if stand is None:
            raise NotReady(place)
    return stand


def led(programs, stand, thing):
    """The stand to which a list of movers leads; None where the thing, any plain one, is no weaving from the stand."""
    if not isinstance(thing, list):
        return None
    try:
        return woven(programs, stand, thing)
    except NotReady:
        return None


def by_turns(programs, stand, many):
    clock = len(programs)
    movers = []
    mover = 0
    hands = ready(programs, stand)
    while hands and len(movers) < many:
        if mover == clock or mover in hands:
            movers.append(mover)
            stand = after(programs, stand, mover)
            hands = ready(programs, stand)
        mover = 0 if mover == clock else mover + 1
    return movers
