"""A book printed: lines of bytes, with numbers in the place of names."""


def sense_numbers(book):
    """For each sense that is there: its entry's place, its place in that entry."""
    numbers = {}
    for entry_place, entry in enumerate(book.order, start=1):
        for sense_place, sense in enumerate(book.rows[entry], start=1):
            numbers[sense] = (entry_place, sense_place)
    return numbers


def bytes_of(text):
    return [ord(sign) for sign in text]


def dotted(number):
    entry_place = number[0]
    sense_place = number[1]
    return f"{entry_place}.{sense_place}"


def entry_line(place, word):
    return bytes_of(f"{place} ") + word + [10]


def sense_line(number, pointed, text):
    ahead = dotted(number)
    return bytes_of(f"{ahead} {pointed} ") + text + [10]


def pointed_as(target, numbers):
    if target == 0:
        return "-"
    return dotted(numbers.get(target, (0, 0)))


def printed(book):
    numbers = sense_numbers(book)
    lines = []
    for place, entry in enumerate(book.order, start=1):
        lines.extend(entry_line(place, book.words[entry]))
        for sense in book.rows[entry]:
            pointed = pointed_as(book.targets[sense], numbers)
            lines.extend(sense_line(numbers[sense], pointed, book.texts[sense]))
    return lines
