"""Patterns and templates: which things are such, how a pattern fits a row, how a template is filled."""

from noteboard.values import GREATEST_NUMBER
from noteboard.values import is_name
from noteboard.values import is_value

MOST_FIELDS = 4


def is_headed(thing, head, many):
    return isinstance(thing, tuple) and len(thing) == many and thing[0] == head


def is_named(thing, head):
    return is_headed(thing, head, 2) and is_name(thing[1])


def is_term(thing):
    if is_headed(thing, "is", 2):
        return is_value(thing[1])
    return is_named(thing, "as")


def is_pattern_field(thing):
    if is_headed(thing, "any", 1) or is_headed(thing, "word", 1) or is_headed(thing, "number", 1):
        return True
    return is_term(thing) or is_named(thing, "bind")


def is_template_field(thing):
    return is_term(thing) or is_named(thing, "next")


def has_field_count(thing):
    return isinstance(thing, tuple) and 1 <= len(thing) <= MOST_FIELDS


def is_pattern(thing):
    return has_field_count(thing) and all([is_pattern_field(field) for field in thing])


def is_template(thing):
    return has_field_count(thing) and all([is_template_field(field) for field in thing])


def field_fits(field, value, having, bound):
    head = field[0]
    if head == "is":
        return field[1] == value
    if head == "word":
        return isinstance(value, str)
    if head == "number":
        return isinstance(value, int)
    if head == "as":
        return field[1] in having and having[field[1]] == value
    if head == "bind":
        return field[1] not in bound or bound[field[1]] == value
    return True


def fits(pattern, row, names):
    if len(pattern) != len(row):
        return None
    having = dict(names)
    # What this pattern bound is kept apart: a bind replaces an elder value, but not one bound here.
    bound = {}
    for field, value in zip(pattern, row):
        if not field_fits(field, value, having, bound):
            return None
        if field[0] == "bind":
            bound[field[1]] = value
            having[field[1]] = value
    return tuple(sorted(having.items()))


def asks(pattern):
    asked = {}
    bound = {}
    for field in pattern:
        if field[0] == "bind":
            bound[field[1]] = True
        if field[0] == "as" and field[1] not in bound:
            asked[field[1]] = True
    return tuple(sorted(asked))


def binds(pattern):
    return tuple(sorted(set([field[1] for field in pattern if field[0] == "bind"])))


def uses(template):
    return tuple(sorted(set([field[1] for field in template if field[0] in ("as", "next")])))


def next_value(value):
    if isinstance(value, str):
        return value
    return 0 if value == GREATEST_NUMBER else value + 1


def field_value(field, having):
    if field[0] == "is":
        return field[1]
    value = having[field[1]]
    return next_value(value) if field[0] == "next" else value


def filled(template, names):
    having = dict(names)
    return tuple([field_value(field, having) for field in template])
