"""Plain things held against one another by their kinds, too."""


def kind_of(thing):
    if thing is None:
        return "none"
    if isinstance(thing, bool):
        return "truth"
    if isinstance(thing, int):
        return "number"
    if isinstance(thing, str):
        return "text"
    return "tuple" if isinstance(thing, tuple) else "list"


def are_alike(one, other):
    # By == alone True would be 1, at each depth.
    if kind_of(one) != kind_of(other):
        return False
    if not isinstance(one, (tuple, list)):
        return one == other
    if len(one) != len(other):
        return False
    return all([are_alike(part, more) for part, more in zip(one, other)])
