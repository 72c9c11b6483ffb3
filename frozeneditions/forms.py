"""The forms of words, texts and prints, and of each call: the ranges of its numbers, and its row."""

# By the call's number: the least and the greatest of each of its numbers.
RANGES = (
    ((0, 20),),  # entry: behind
    ((1, 20), (0, 50)),  # sense: entry, behind
    ((1, 50),),  # say: sense
    ((1, 50), (0, 50)),  # point: sense, to
    ((1, 50), (1, 20), (0, 50)),  # movesense: sense, entry, behind
    ((1, 20), (0, 20)),  # moveentry: entry, behind
    ((1, 50),),  # dropsense: sense
    ((1, 20),),  # dropentry: entry
    ((1, 10), (1, 50)),  # erratum: edition, sense
    (),  # freeze
    ((0, 10),),  # print: book
    ((1, 10),),  # corrected: edition
    ((0, 10), (0, 10)),  # changes: first, second
    ((0, 10),),  # patch: book
    ((0, 10), (1, 50)),  # number: book, sense
    ((0, 10), (1, 20), (1, 50)),  # name: book, entry_place, sense_place
    ((0, 10), (1, 20), (1, 50), (0, 10)),  # carry: book, entry_place, sense_place, other
    ((0, 10),),  # pointers: book
    ((0, 10),),  # dead: book
    ((0, 10), (1, 50)),  # blame: book, sense
    (),  # check
    ((1, 10),),  # errata: edition
    ((1, 200),),  # line: number
    ((0, 10),),  # size: book
    (),  # state
)


def is_row(row, shortest, longest, least, greatest):
    if not shortest <= len(row) <= longest:
        return False
    return all([least <= number <= greatest for number in row])


def is_word(row):
    return is_row(row, 1, 12, 97, 122)


def is_text(row):
    return is_row(row, 0, 30, 32, 126)


def is_print(row):
    return is_row(row, 0, 3000, 0, 255)


def may_be_changes(row):
    """Of its length alone: numbers that are no changes are a refusal of their own."""
    return len(row) <= 3000


# By the call's number, of the calls with a row: what the row must be.
ROWS = {
    0: is_word,  # entry
    1: is_text,  # sense
    2: is_text,  # say
    8: is_text,  # erratum
    13: may_be_changes,  # patch
    20: is_print,  # check
}


def call_end(calls, start):
    """Where the call that begins at start ends in the list of all calls."""
    call = calls[start]
    end = start + 1 + len(RANGES[call])
    if call in ROWS:
        end += 1 + calls[end]
    return end


def numbers_of(call):
    return call[1:1 + len(RANGES[call[0]])]


def row_of(call):
    """The call's row without its count; empty if the call has none."""
    return call[2 + len(RANGES[call[0]]):]


def numbers_are_told(call):
    for number, bounds in zip(numbers_of(call), RANGES[call[0]]):
        if not bounds[0] <= number <= bounds[1]:
            return False
    return True


def row_is_told(call):
    if call[0] not in ROWS:
        return True
    return ROWS[call[0]](row_of(call))


def is_as_told(call):
    return numbers_are_told(call) and row_is_told(call)
