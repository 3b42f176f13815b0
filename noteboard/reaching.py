"""The stands that are come to from a stand, the way to a sight, and the ends."""

from noteboard.errors import TooMany
from noteboard.moving import after
from noteboard.moving import ready
from noteboard.sights import sees

MOST_STANDS = 2000


def further(programs, steps, stands):
    """The stands one move behind these that are new: each is put into the steps, with where it came from."""
    fresh = []
    for stand in stands:
        for mover in range(len(programs) + 1):
            behind = after(programs, stand, mover)
            if behind is not None and behind not in steps:
                if len(steps) == MOST_STANDS:
                    raise TooMany("more than 2,000 stands are come to")
                steps[behind] = (stand, mover)
                fresh.append(behind)
    return fresh


def steps_from(programs, stand):
    """Each stand come to, nearer ones ahead, with the last step of a shortest weaving to it: (stand, mover)."""
    steps = {stand: None}
    stands = [stand]
    while stands:
        stands = further(programs, steps, stands)
    return steps


def reached(programs, stand):
    return list(steps_from(programs, stand))


def way_along(steps, stand):
    movers = []
    step = steps[stand]
    while step is not None:
        movers.append(step[1])
        step = steps[step[0]]
    return list(reversed(movers))


def first_seeing(programs, stands, sight):
    for stand in stands:
        if sees(programs, stand, sight):
            return stand
    return None


def way_to(programs, stand, sight):
    steps = steps_from(programs, stand)
    one = first_seeing(programs, steps, sight)
    return None if one is None else way_along(steps, one)


def ends(programs, stand):
    return [one for one in reached(programs, stand) if not ready(programs, one)]
