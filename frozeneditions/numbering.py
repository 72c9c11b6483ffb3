"""Numbers of senses in a book: an entry's place in the row, a sense's place in that entry."""

NOT_THERE = (0, 0)


def sense_numbers(book):
    """For each sense that is there, in the order of print: its number."""
    numbers = {}
    for entry_place, entry in enumerate(book.order, start=1):
        for sense_place, sense in enumerate(book.rows[entry], start=1):
            numbers[sense] = (entry_place, sense_place)
    return numbers


def number_among(numbers, sense):
    return numbers.get(sense, NOT_THERE)


def number_in(book, sense):
    return number_among(sense_numbers(book), sense)


def sense_at(book, entry_place, sense_place):
    """The name of the sense with this number, 0 if there is none."""
    if entry_place > len(book.order):
        return 0
    row = book.rows[book.order[entry_place - 1]]
    if sense_place > len(row):
        return 0
    return row[sense_place - 1]


def pointers_of(book):
    """For each sense that points, in the order of print: its number, and that of what it points to."""
    numbers = sense_numbers(book)
    found = []
    for sense in book.senses():
        target = book.targets[sense]
        if target != 0:
            found.append((numbers[sense], number_among(numbers, target)))
    return found


def dead_pointers_of(book):
    """The numbers of the senses whose pointers are dead, in the order of print."""
    return [pointer[0] for pointer in pointers_of(book) if pointer[1] == NOT_THERE]
