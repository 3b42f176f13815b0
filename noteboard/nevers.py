"""Papers of never, told: all stands that are come to, or the way to one that sees the sight."""

from noteboard.reaching import first_seeing
from noteboard.reaching import steps_from
from noteboard.reaching import way_along


def never(programs, stand, sight):
    steps = steps_from(programs, stand)
    one = first_seeing(programs, steps, sight)
    return ("never", list(steps)) if one is None else ("seen", way_along(steps, one))
