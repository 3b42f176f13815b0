"""Plans written as lines, and lines read to the plan that they write."""

from noteboard.acts import MOST_ACTS
from noteboard.acts import is_wanted
from noteboard.errors import NoLine
from noteboard.fieldtexts import age_read
from noteboard.fieldtexts import block_read
from noteboard.fieldtexts import field_read
from noteboard.fieldtexts import shown_age
from noteboard.fieldtexts import shown_block
from noteboard.fieldtexts import shown_field
from noteboard.fieldtexts import value_read
from noteboard.patterns import is_pattern
from noteboard.patterns import is_template
from noteboard.patterns import is_term
from noteboard.programs import LEADING
from noteboard.programs import MOST_BLOCKS
from noteboard.programs import MOST_NOTES
from noteboard.programs import MOST_PROGRAMS
from noteboard.programs import fields_of
from noteboard.programs import wrong_word
from noteboard.values import is_row

ACT_HEADS = ("lay", "take", "read", "look", "same", "go")
AGED = ("note", "lay")
# How many parts (values, names or fields) a line has at least behind its first word.
LEAST_PARTS = {"note": 1, "hand": 0, "block": 0, "lay": 1, "take": 1, "read": 1, "look": 1, "same": 2, "go": 0}


def aged_words(age):
    return [] if age is None else [shown_age(age)]


def shown_note(note):
    return " ".join(["note"] + [str(value) for value in note[0]] + aged_words(note[1]))


def shown_act(act):
    words = [act[0]] + [shown_field(field) for field in fields_of(act)]
    if act[0] == "lay":
        words.extend(aged_words(act[2]))
    if act[0] in LEADING:
        words.append(shown_block(act[-1]))
    return " ".join(words)


def shown_program(program):
    lines = ["hand"]
    for wanted, acts in program:
        lines.append(" ".join(["block"] + list(wanted)))
        lines.extend([shown_act(act) for act in acts])
    return lines


def shown_plan(plan):
    lines = [shown_note(note) for note in plan[1]]
    for program in plan[0]:
        lines.extend(shown_program(program))
    return lines


def can_stand(head, notes, hands):
    """Whether a line with this first word can stand behind those that are read already."""
    if head == "note":
        return hands == [] and len(notes) < MOST_NOTES
    if head == "hand":
        return not lacks_block(hands) and len(hands) < MOST_PROGRAMS
    if head == "block":
        return hands != [] and len(hands[-1]) < MOST_BLOCKS
    if head in ACT_HEADS:
        return hands != [] and hands[-1] != [] and len(hands[-1][-1][1]) < MOST_ACTS
    return False


def lacks_block(hands):
    return hands != [] and hands[-1] == []


def part_read(head, word):
    if head == "block":
        return word
    return value_read(word) if head == "note" else field_read(word)


def can_begin(head, parts):
    """Whether a line with this first word can go on with just these parts."""
    if head == "note":
        return is_row(parts)
    if head == "block":
        return is_wanted(parts)
    if head == "lay":
        return is_template(parts)
    if head in ("take", "read", "look"):
        return is_pattern(parts)
    return head == "same" and len(parts) <= 2 and all([is_term(part) for part in parts])


def parts_read(words):
    parts = ()
    for word in words[1:]:
        longer = parts + (part_read(words[0], word),)
        if not can_begin(words[0], longer):
            return parts
        parts = longer
    return parts


def tail_read(words, many):
    """The age or block that stands behind so many parts; None where none can or does."""
    head = words[0]
    if many < LEAST_PARTS[head] or many + 1 == len(words):
        return None
    if head in AGED:
        return age_read(words[many + 1])
    return block_read(words[many + 1]) if head in LEADING else None


def line_made(head, parts, tail):
    if head in ("hand", "block"):
        return parts
    if head == "note":
        return (parts, tail)
    if head in ("lay", "look"):
        return (head, parts, tail)
    if head in ("take", "read"):
        return (head, parts)
    return (head,) + parts + (tail,)


def line_read(line, words):
    head = words[0]
    parts = parts_read(words)
    tail = tail_read(words, len(parts))
    # The first word that can't stand and the one that lacks have one number: how many were read.
    many = 1 + len(parts) + (0 if tail is None else 1)
    lacks = len(parts) < LEAST_PARTS[head] or (head in LEADING and tail is None)
    if lacks or many < len(words):
        raise NoLine(line, many)
    return line_made(head, parts, tail)


def put_line(head, made, notes, hands):
    if head == "note":
        notes.append(made)
    elif head == "hand":
        hands.append([])
    elif head == "block":
        hands[-1].append((made, []))
    else:
        hands[-1][-1][1].append(made)


def program_made(blocks):
    return tuple([(wanted, tuple(acts)) for wanted, acts in blocks])


def refuse_wrong_block(program, block, line):
    if block == 0 and program[block][0] != ():
        raise NoLine(line, 1)
    for place in range(len(program[block][1])):
        word = wrong_word(program, block, place)
        if word is not None:
            raise NoLine(line + 1 + place, word)


def refuse_wrong(plan):
    """Refuses what is not right, the lines being those that the plan is written as."""
    line = len(plan[1])
    for program in plan[0]:
        line += 1
        for block in range(len(program)):
            refuse_wrong_block(program, block, line)
            line += 1 + len(program[block][1])


def read_plan(lines):
    notes = []
    hands = []
    for line, text in enumerate(lines):
        words = text.split(" ")
        if not can_stand(words[0], notes, hands):
            raise NoLine(line, 0)
        put_line(words[0], line_read(line, words), notes, hands)
    if lacks_block(hands):
        raise NoLine(len(lines), 0)
    plan = (tuple([program_made(blocks) for blocks in hands]), tuple(notes))
    refuse_wrong(plan)
    return plan
