"""The calls that freeze an edition or tell of the books, from call 9 on: none adds to the log."""

from frozeneditions.content import copied
from frozeneditions.differences import changes_between
from frozeneditions.numbering import dead_pointers_of
from frozeneditions.numbering import number_in
from frozeneditions.numbering import pointers_of
from frozeneditions.numbering import sense_at
from frozeneditions.patching import are_changes
from frozeneditions.patching import first_not_applied
from frozeneditions.printing import printed
from frozeneditions.reading import read
from frozeneditions.refusals import FULL
from frozeneditions.refusals import NO_CHANGES
from frozeneditions.refusals import NO_EDITION
from frozeneditions.refusals import NO_LINE
from frozeneditions.refusals import NO_SENSE


def freeze(house, numbers, row):
    if house.no_more_editions():
        return [FULL]
    house.freeze()
    return [0, len(house.editions), len(house.log)]


def print_book(house, numbers, row):
    return [0] + printed(house.book(numbers[0]))


def corrected(house, numbers, row):
    return [0] + printed(house.corrected(numbers[0]))


def changes(house, numbers, row):
    found = changes_between(house.book(numbers[0]), house.book(numbers[1]))
    answer = [0, len(found)]
    for change in found:
        answer.extend(change)
    return answer


def patch(house, numbers, row):
    if not are_changes(row):
        return [NO_CHANGES]
    book = copied(house.book(numbers[0]))
    wrong = first_not_applied(book, row)
    if wrong > 0:
        return [0, 1, wrong]
    return [0, 0] + printed(book)


def number(house, numbers, row):
    return [0] + list(number_in(house.book(numbers[0]), numbers[1]))


def name(house, numbers, row):
    return [0, sense_at(house.book(numbers[0]), numbers[1], numbers[2])]


def carry(house, numbers, row):
    sense = sense_at(house.book(numbers[0]), numbers[1], numbers[2])
    if sense == 0:
        return [NO_SENSE]
    return [0] + list(number_in(house.book(numbers[3]), sense))


def pointers(house, numbers, row):
    found = pointers_of(house.book(numbers[0]))
    answer = [0, len(found)]
    for sense_number, target_number in found:
        answer.extend(sense_number)
        answer.extend(target_number)
    return answer


def dead(house, numbers, row):
    found = dead_pointers_of(house.book(numbers[0]))
    answer = [0, len(found)]
    for sense_number in found:
        answer.extend(sense_number)
    return answer


def blame(house, numbers, row):
    if not house.book(numbers[0]).has_sense(numbers[1]):
        return [NO_SENSE]
    return [0] + house.blame(numbers[0], numbers[1])


def check(house, numbers, row):
    return [0] + read(row)


def errata(house, numbers, row):
    found = house.errata(numbers[0])
    book = house.book(numbers[0])
    answer = [0, len(found)]
    for call, told, text in found:
        answer.extend(number_in(book, told[1]))
        answer.append(len(text))
        answer.extend(text)
    return answer


def line(house, numbers, row):
    if numbers[0] > len(house.log):
        return [NO_LINE]
    noted = house.log[numbers[0] - 1]
    missing = [0] * (3 - len(noted[1]))
    return [0, noted[0]] + noted[1] + missing + [len(noted[2])] + noted[2]


def size(house, numbers, row):
    book = house.book(numbers[0])
    return [0, house.length(numbers[0]), len(book.order), len(book.senses())]


def state(house, numbers, row):
    return [0, len(house.log), house.entries_made, house.senses_made, len(house.editions)] + house.lengths


TELLINGS = {
    9: freeze,
    10: print_book,
    11: corrected,
    12: changes,
    13: patch,
    14: number,
    15: name,
    16: carry,
    17: pointers,
    18: dead,
    19: blame,
    20: check,
    21: errata,
    22: line,
    23: size,
    24: state,
}

# By the call's number: which of its numbers are books, or editions.
BOOKS = {
    10: (0,),
    11: (0,),
    12: (0, 1),
    13: (0,),
    14: (0,),
    15: (0,),
    16: (0, 3),
    17: (0,),
    18: (0,),
    19: (0,),
    21: (0,),
    23: (0,),
}


def books_are_there(house, call, numbers):
    return all([house.has_book(numbers[place]) for place in BOOKS.get(call, ())])


def tell(house, call, numbers, row):
    # Of each call that is told a book, -8 is the first refusal.
    if not books_are_there(house, call, numbers):
        return [NO_EDITION]
    return TELLINGS[call](house, numbers, row)
