"""The acts on the book now, calls 0 to 8. Each answers, or refuses before anything has changed."""

from frozeneditions.refusals import FULL
from frozeneditions.refusals import NO_EDITION
from frozeneditions.refusals import NO_ENTRY
from frozeneditions.refusals import NO_PLACE
from frozeneditions.refusals import NO_SENSE
from frozeneditions.rows import is_place


def entry(house, numbers, word):
    behind = numbers[0]
    if not is_place(house.now.order, behind):
        return [NO_PLACE]
    if house.no_more_entries():
        return [FULL]
    house.entries_made += 1
    house.now.make_entry(house.entries_made, behind, word)
    return [0, house.note(0, numbers, word), house.entries_made]


def sense(house, numbers, text):
    home = numbers[0]
    behind = numbers[1]
    if not house.now.has_entry(home):
        return [NO_ENTRY]
    if not is_place(house.now.rows[home], behind):
        return [NO_PLACE]
    if house.no_more_senses():
        return [FULL]
    house.senses_made += 1
    house.now.make_sense(house.senses_made, home, behind, text)
    return [0, house.note(1, numbers, text), house.senses_made]


def say(house, numbers, text):
    name = numbers[0]
    if not house.now.has_sense(name):
        return [NO_SENSE]
    if house.log_is_full():
        return [FULL]
    house.now.say(name, text)
    return [0, house.note(2, numbers, text)]


def point(house, numbers, row):
    name = numbers[0]
    target = numbers[1]
    if not house.now.has_sense(name):
        return [NO_SENSE]
    if target != 0 and not house.now.has_sense(target):
        return [NO_SENSE]
    if house.log_is_full():
        return [FULL]
    house.now.point(name, target)
    return [0, house.note(3, numbers, row)]


def movesense(house, numbers, row):
    name = numbers[0]
    home = numbers[1]
    behind = numbers[2]
    if not house.now.has_sense(name):
        return [NO_SENSE]
    if not house.now.has_entry(home):
        return [NO_ENTRY]
    if behind == name or not is_place(house.now.rows[home], behind):
        return [NO_PLACE]
    if house.log_is_full():
        return [FULL]
    house.now.move_sense(name, home, behind)
    return [0, house.note(4, numbers, row)]


def moveentry(house, numbers, row):
    name = numbers[0]
    behind = numbers[1]
    if not house.now.has_entry(name):
        return [NO_ENTRY]
    if behind == name or not is_place(house.now.order, behind):
        return [NO_PLACE]
    if house.log_is_full():
        return [FULL]
    house.now.move_entry(name, behind)
    return [0, house.note(5, numbers, row)]


def dropsense(house, numbers, row):
    name = numbers[0]
    if not house.now.has_sense(name):
        return [NO_SENSE]
    if house.log_is_full():
        return [FULL]
    house.now.drop_sense(name)
    return [0, house.note(6, numbers, row)]


def dropentry(house, numbers, row):
    name = numbers[0]
    if not house.now.has_entry(name):
        return [NO_ENTRY]
    if house.log_is_full():
        return [FULL]
    house.now.drop_entry(name)
    return [0, house.note(7, numbers, row)]


def erratum(house, numbers, text):
    edition = numbers[0]
    if not house.has_book(edition):
        return [NO_EDITION]
    if not house.book(edition).has_sense(numbers[1]):
        return [NO_SENSE]
    if house.log_is_full():
        return [FULL]
    return [0, house.note(8, numbers, text)]


ACTS = (entry, sense, say, point, movesense, moveentry, dropsense, dropentry, erratum)


def is_act(call):
    return call < len(ACTS)


def act(house, call, numbers, row):
    return ACTS[call](house, numbers, row)
