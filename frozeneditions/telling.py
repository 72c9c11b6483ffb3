"""The calls that freeze an edition or tell of the books, from call 9 on: none adds to the log."""

from frozeneditions.differences import changes_between
from frozeneditions.printing import printed
from frozeneditions.refusals import FULL
from frozeneditions.refusals import NO_EDITION


def freeze(house, numbers):
    if house.no_more_editions():
        return [FULL]
    house.freeze()
    return [0, len(house.editions), len(house.log)]


def print_book(house, numbers):
    if not house.has_book(numbers[0]):
        return [NO_EDITION]
    return [0] + printed(house.book(numbers[0]))


def corrected(house, numbers):
    if not house.has_book(numbers[0]):
        return [NO_EDITION]
    return [0] + printed(house.corrected(numbers[0]))


def changes(house, numbers):
    if not house.has_book(numbers[0]) or not house.has_book(numbers[1]):
        return [NO_EDITION]
    found = changes_between(house.book(numbers[0]), house.book(numbers[1]))
    answer = [0, len(found)]
    for change in found:
        answer.extend(change)
    return answer


TELLINGS = {
    9: freeze,
    10: print_book,
    11: corrected,
    12: changes,
}


def tell(house, call, numbers):
    return TELLINGS[call](house, numbers)
