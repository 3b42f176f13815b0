"""Words, numbers, values, names, rows and notes: which things are such, and the order of rows."""

LONGEST_WORD = 8
LONGEST_NAME = 4
LONGEST_ROW = 4
GREATEST_NUMBER = 99
GREATEST_AGE = 20


def is_whole(thing):
    # A truth counts as an int for Python, but is no whole number here.
    return isinstance(thing, int) and not isinstance(thing, bool)


def is_letters(thing, longest):
    if not isinstance(thing, str):
        return False
    return 1 <= len(thing) <= longest and all(["a" <= sign <= "z" for sign in thing])


def is_word(thing):
    return is_letters(thing, LONGEST_WORD)


def is_number(thing):
    return is_whole(thing) and 0 <= thing <= GREATEST_NUMBER


def is_value(thing):
    return is_word(thing) or is_number(thing)


def is_name(thing):
    return is_letters(thing, LONGEST_NAME)


def is_row(thing):
    if not isinstance(thing, tuple):
        return False
    return 1 <= len(thing) <= LONGEST_ROW and all([is_value(value) for value in thing])


def is_age(thing):
    return thing is None or (is_whole(thing) and 1 <= thing <= GREATEST_AGE)


def is_note(thing):
    return isinstance(thing, tuple) and len(thing) == 2 and is_row(thing[0]) and is_age(thing[1])


def value_key(value):
    # Python holds no number against a text: the first figure parts the two kinds ahead of that.
    if isinstance(value, int):
        return (0, value)
    return (1, value)


def row_key(row):
    return tuple([value_key(value) for value in row])


def ahead(one, other):
    return row_key(one) < row_key(other)


def in_order(rows):
    return sorted(rows, key=row_key)
