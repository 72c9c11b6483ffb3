"""A print read line by line: what it holds, or its first wrong line."""

from frozeneditions.forms import is_text
from frozeneditions.forms import is_word
from frozeneditions.printing import entry_head
from frozeneditions.printing import sense_head

LINE_END = 10
BLANK = 32
DASH = 45
DOT = 46
ZERO = 48
NINE = 57
# Numbers in a print have at most two digits.
GREATEST = 99


def is_number(row):
    if not 1 <= len(row) <= 2:
        return False
    if not all([ZERO <= sign <= NINE for sign in row]):
        return False
    return len(row) == 1 or row[0] != ZERO


def is_pointer(row):
    if row == [DASH]:
        return True
    if DOT not in row:
        return False
    dot = row.index(DOT)
    return is_number(row[:dot]) and is_number(row[dot + 1:])


def is_entry_line(line, place):
    head = entry_head(place)
    if place > GREATEST or line[:len(head)] != head:
        return False
    return is_word(line[len(head):])


def is_sense_line(line, entry_place, sense_place):
    head = sense_head((entry_place, sense_place))
    if sense_place > GREATEST or line[:len(head)] != head:
        return False
    rest = line[len(head):]
    if BLANK not in rest:
        return False
    blank = rest.index(BLANK)
    return is_pointer(rest[:blank]) and is_text(rest[blank + 1:])


def ended_lines(row):
    """The lines without their ends; what stands behind the last end is none of them."""
    lines = []
    line = []
    for sign in row:
        if sign == LINE_END:
            lines.append(line)
            line = []
        else:
            line.append(sign)
    return lines


def read(row):
    """0, how many entries, how many senses; or 1, the first wrong line."""
    lines = ended_lines(row)
    entries = 0
    senses = 0
    senses_here = 0
    for place, line in enumerate(lines, start=1):
        if is_entry_line(line, entries + 1):
            entries += 1
            senses_here = 0
        elif entries > 0 and is_sense_line(line, entries, senses_here + 1):
            senses += 1
            senses_here += 1
        else:
            return [1, place]
    if row != [] and row[-1] != LINE_END:
        return [1, len(lines) + 1]
    return [0, entries, senses]
