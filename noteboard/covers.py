"""Covers: lists of entries that are above each stand come to, judged and told."""

from noteboard.entries import entry_of
from noteboard.entries import entry_sees
from noteboard.entries import entry_steps
from noteboard.entries import has_no_more
from noteboard.entries import is_entry
from noteboard.entries import under
from noteboard.errors import TooMany
from noteboard.sights import is_plain

MOST_ENTRIES = 500


def put_in(groups, entry):
    """Puts the entry's counts, as a dict, to those of like hands: only these can be above one another."""
    groups.setdefault(entry[0], []).append(dict(entry[1]))


def is_covered(groups, entry):
    for having in groups.get(entry[0], []):
        if has_no_more(entry[1], having):
            return True
    return False


def has_steps_covered(programs, groups, entry):
    for step in entry_steps(programs, entry):
        if not is_covered(groups, step):
            return False
    return True


def lets_cover(programs, stand, thing):
    if not isinstance(thing, list) or not all([is_entry(programs, one) for one in thing]):
        return False
    groups = {}
    for entry in thing:
        put_in(groups, entry)
    if not is_covered(groups, entry_of(stand)):
        return False
    return all([has_steps_covered(programs, groups, entry) for entry in thing])


def cover_never(programs, stand, sight, thing):
    if not is_plain(sight) or not lets_cover(programs, stand, thing):
        return False
    return not any([entry_sees(programs, entry, sight) for entry in thing])


def grown_by(step, earlier):
    """The step, with any many of each row of which it has more than the earlier entry, where that is under it."""
    if not under(earlier, step):
        return step
    having = dict(earlier[1])
    counts = [(row, many if having.get(row, 0) == many else None) for row, many in step[1]]
    return (step[0], tuple(counts))


def grown(step, way):
    for earlier in way:
        step = grown_by(step, earlier)
    return step


def way_back(entries, origins, place):
    """The entry at the place, the one of which it was a step, and so on to the first."""
    way = []
    while place is not None:
        way.append(entries[place])
        place = origins[place]
    return way


def cover(programs, stand):
    entries = [entry_of(stand)]
    # Of each entry the place of the one of which it was a step.
    origins = [None]
    groups = {}
    put_in(groups, entries[0])
    place = 0
    while place < len(entries):
        way = way_back(entries, origins, place)
        for step in entry_steps(programs, entries[place]):
            entry = grown(step, way)
            if not is_covered(groups, entry):
                if len(entries) == MOST_ENTRIES:
                    raise TooMany("a cover would have more than 500 entries")
                entries.append(entry)
                origins.append(place)
                put_in(groups, entry)
        place += 1
    return entries
