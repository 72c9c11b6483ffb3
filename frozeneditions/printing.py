"""A book printed: lines of bytes, with numbers in the place of names."""

from frozeneditions.numbering import number_among
from frozeneditions.numbering import sense_numbers


def bytes_of(text):
    return [ord(sign) for sign in text]


def dotted(number):
    entry_place = number[0]
    sense_place = number[1]
    return f"{entry_place}.{sense_place}"


def entry_head(place):
    """What an entry's line begins with, ahead of its word."""
    return bytes_of(f"{place} ")


def sense_head(number):
    """What a sense's line begins with, ahead of what it points to."""
    place = dotted(number)
    return bytes_of(f"{place} ")


def entry_line(place, word):
    return entry_head(place) + word + [10]


def sense_line(number, pointed, text):
    return sense_head(number) + bytes_of(f"{pointed} ") + text + [10]


def pointed_as(target, numbers):
    if target == 0:
        return "-"
    return dotted(number_among(numbers, target))


def printed(book):
    numbers = sense_numbers(book)
    lines = []
    for place, entry in enumerate(book.order, start=1):
        lines.extend(entry_line(place, book.words[entry]))
        for sense in book.rows[entry]:
            pointed = pointed_as(book.targets[sense], numbers)
            lines.extend(sense_line(numbers[sense], pointed, book.texts[sense]))
    return lines
