"""Changes as numbers, one behind the other: whether they are changes, and how they are applied to a book."""

from frozeneditions.forms import is_text
from frozeneditions.forms import is_word
from frozeneditions.kinds import ENTRY_NEW
from frozeneditions.kinds import NUMBERS
from frozeneditions.kinds import SAID
from frozeneditions.kinds import SENSE_NEW
from frozeneditions.rows import is_place

GREATEST = 100


def is_head(head):
    """Whether a change may begin with these: its kind, its numbers, how many bytes follow."""
    if len(head) < 5 or not all([0 <= number <= GREATEST for number in head]):
        return False
    kind = head[0]
    if not 1 <= kind < len(NUMBERS):
        return False
    unused = head[1 + NUMBERS[kind]:4]
    return all([number == 0 for number in unused])


def are_bytes_of(kind, row):
    if kind == ENTRY_NEW:
        return is_word(row)
    if kind == SENSE_NEW or kind == SAID:
        return is_text(row)
    return row == []


def change_end(row, start):
    return start + 5 + row[start + 4]


def is_change(row, start):
    if not is_head(row[start:start + 5]):
        return False
    end = change_end(row, start)
    return end <= len(row) and are_bytes_of(row[start], row[start + 5:end])


def are_changes(row):
    start = 0
    while start < len(row):
        if not is_change(row, start):
            return False
        start = change_end(row, start)
    return True


def drop_entry(book, numbers, row):
    if not book.has_entry(numbers[0]):
        return False
    book.drop_entry(numbers[0])
    return True


def drop_sense(book, numbers, row):
    if not book.has_sense(numbers[0]):
        return False
    book.drop_sense(numbers[0])
    return True


def make_entry(book, numbers, row):
    entry = numbers[0]
    behind = numbers[1]
    if entry == 0 or book.has_entry(entry) or not is_place(book.order, behind):
        return False
    book.make_entry(entry, behind, row)
    return True


def move_entry(book, numbers, row):
    entry = numbers[0]
    behind = numbers[1]
    if not book.has_entry(entry) or behind == entry or not is_place(book.order, behind):
        return False
    book.move_entry(entry, behind)
    return True


def make_sense(book, numbers, row):
    sense = numbers[0]
    entry = numbers[1]
    behind = numbers[2]
    if sense == 0 or book.has_sense(sense):
        return False
    if not book.has_entry(entry) or not is_place(book.rows[entry], behind):
        return False
    book.make_sense(sense, entry, behind, row)
    return True


def move_sense(book, numbers, row):
    sense = numbers[0]
    entry = numbers[1]
    behind = numbers[2]
    if not book.has_sense(sense) or behind == sense:
        return False
    if not book.has_entry(entry) or not is_place(book.rows[entry], behind):
        return False
    book.move_sense(sense, entry, behind)
    return True


def say(book, numbers, row):
    if not book.has_sense(numbers[0]):
        return False
    book.say(numbers[0], row)
    return True


def point(book, numbers, row):
    if not book.has_sense(numbers[0]):
        return False
    book.point(numbers[0], numbers[1])
    return True


# By the kind: how it is done. Each tells whether it could be; if not, the book is as it was.
DOINGS = {
    1: drop_entry,
    2: drop_sense,
    3: make_entry,
    4: move_entry,
    5: make_sense,
    6: move_sense,
    7: say,
    8: point,
}


def first_not_applied(book, row):
    """Apply the changes to the book, in order, up to the first that can't be: its number, 0 if all could."""
    count = 0
    start = 0
    while start < len(row):
        count += 1
        end = change_end(row, start)
        if not DOINGS[row[start]](book, row[start + 1:start + 4], row[start + 5:end]):
            return count
        start = end
    return 0
