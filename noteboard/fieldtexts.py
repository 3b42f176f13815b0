"""Values, fields, ages and blocks written as words of a text, and such words read again."""

from noteboard.values import GREATEST_NUMBER
from noteboard.values import is_age
from noteboard.values import is_name
from noteboard.values import is_word

BARE_SIGNS = {"any": "?", "word": "$", "number": "#"}
NAME_SIGNS = {"bind": "?", "as": "=", "next": "+"}
AGE_SIGN = "@"
BLOCK_SIGN = ">"


def shown_field(field):
    head = field[0]
    if head in BARE_SIGNS:
        return BARE_SIGNS[head]
    if head in NAME_SIGNS:
        return NAME_SIGNS[head] + field[1]
    return str(field[1])


def shown_age(age):
    return AGE_SIGN + str(age)


def shown_block(block):
    return BLOCK_SIGN + str(block)


def is_figures(text):
    return text != "" and all(["0" <= sign <= "9" for sign in text])


def number_read(text):
    """The number that the text writes, None where it writes none."""
    # The length is looked at first: Python refuses to read very many figures.
    if len(text) > len(str(GREATEST_NUMBER)) or not is_figures(text):
        return None
    number = int(text)
    # Figures with a 0 ahead are written otherwise.
    return number if str(number) == text else None


def value_read(text):
    return text if is_word(text) else number_read(text)


def field_read(text):
    """The field of a pattern or template that the text writes, None where it writes none."""
    for head in BARE_SIGNS:
        if text == BARE_SIGNS[head]:
            return (head,)
    for head in NAME_SIGNS:
        if text.startswith(NAME_SIGNS[head]) and is_name(text[1:]):
            return (head, text[1:])
    value = value_read(text)
    return None if value is None else ("is", value)


def age_read(text):
    age = number_read(text[1:]) if text.startswith(AGE_SIGN) else None
    return age if is_age(age) else None


def block_read(text):
    return number_read(text[1:]) if text.startswith(BLOCK_SIGN) else None
