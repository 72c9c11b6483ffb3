"""The changes that lead from one book to another one."""

from frozeneditions.kinds import ENTRY_DROPPED
from frozeneditions.kinds import ENTRY_MOVED
from frozeneditions.kinds import ENTRY_NEW
from frozeneditions.kinds import POINTED
from frozeneditions.kinds import SAID
from frozeneditions.kinds import SENSE_DROPPED
from frozeneditions.kinds import SENSE_MOVED
from frozeneditions.kinds import SENSE_NEW
from frozeneditions.rows import those_that_stay


def change(kind, numbers, row):
    missing = [0] * (3 - len(numbers))
    return [kind] + numbers + missing + [len(row)] + row


def entries_dropped(first, second):
    return [change(ENTRY_DROPPED, [entry], []) for entry in first.order if not second.has_entry(entry)]


def entries_placed(first, second):
    stay = those_that_stay(first.order, second.order)
    found = []
    ahead = 0
    for entry in second.order:
        if entry not in stay:
            if first.has_entry(entry):
                found.append(change(ENTRY_MOVED, [entry, ahead], []))
            else:
                found.append(change(ENTRY_NEW, [entry, ahead], second.words[entry]))
        ahead = entry
    return found


def senses_left(first, second):
    """The first's senses that did not go with a dropped entry, in the order of print."""
    left = []
    for entry in first.order:
        if second.has_entry(entry):
            left.extend(first.rows[entry])
    return left


def senses_dropped(left, second):
    return [change(SENSE_DROPPED, [sense], []) for sense in left if not second.has_sense(sense)]


def senses_placed_in(entry, first, second, left):
    stay = those_that_stay(first.rows.get(entry, []), second.rows[entry])
    found = []
    ahead = 0
    for sense in second.rows[entry]:
        if sense not in stay:
            if sense in left:
                found.append(change(SENSE_MOVED, [sense, entry, ahead], []))
            else:
                found.append(change(SENSE_NEW, [sense, entry, ahead], second.texts[sense]))
        ahead = sense
    return found


def senses_placed(first, second, left):
    found = []
    for entry in second.order:
        found.extend(senses_placed_in(entry, first, second, left))
    return found


def senses_said(first, second, left):
    found = []
    for sense in second.senses():
        if sense in left and first.texts[sense] != second.texts[sense]:
            found.append(change(SAID, [sense], second.texts[sense]))
    return found


def senses_pointed(first, second, left):
    found = []
    for sense in second.senses():
        target_by_now = first.targets[sense] if sense in left else 0
        if second.targets[sense] != target_by_now:
            found.append(change(POINTED, [sense, second.targets[sense]], []))
    return found


def changes_between(first, second):
    left = senses_left(first, second)
    found = entries_dropped(first, second)
    found.extend(entries_placed(first, second))
    found.extend(senses_dropped(left, second))
    found.extend(senses_placed(first, second, left))
    found.extend(senses_said(first, second, left))
    found.extend(senses_pointed(first, second, left))
    return found
