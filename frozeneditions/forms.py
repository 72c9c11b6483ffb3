"""The form of each call: the ranges of its numbers, and the lengths and numbers of its row."""

# By the call's number: the least and the greatest of each of its numbers.
RANGES = (
    ((0, 20),),  # entry: behind
    ((1, 20), (0, 50)),  # sense: entry, behind
    ((1, 50),),  # say: sense
    ((1, 50), (0, 50)),  # point: sense, to
    ((1, 50), (1, 20), (0, 50)),  # movesense: sense, entry, behind
    ((1, 20), (0, 20)),  # moveentry: entry, behind
    ((1, 50),),  # dropsense: sense
    ((1, 20),),  # dropentry: entry
    ((1, 10), (1, 50)),  # erratum: edition, sense
    (),  # freeze
    ((0, 10),),  # print: book
    ((1, 10),),  # corrected: edition
    ((0, 10), (0, 10)),  # changes: first, second
)

# Of the calls with a row: its least and greatest length, the least and the greatest number in it.
ROWS = {
    0: (1, 12, 97, 122),  # entry: word
    1: (0, 30, 32, 126),  # sense: text
    2: (0, 30, 32, 126),  # say: text
    8: (0, 30, 32, 126),  # erratum: text
}


def call_end(calls, start):
    """Where the call that begins at start ends in the list of all calls."""
    call = calls[start]
    end = start + 1 + len(RANGES[call])
    if call in ROWS:
        end += 1 + calls[end]
    return end


def numbers_of(call):
    return call[1:1 + len(RANGES[call[0]])]


def row_of(call):
    """The call's row without its count; empty if the call has none."""
    return call[2 + len(RANGES[call[0]]):]


def numbers_are_told(call):
    for number, bounds in zip(numbers_of(call), RANGES[call[0]]):
        if not bounds[0] <= number <= bounds[1]:
            return False
    return True


def row_is_told(call):
    if call[0] not in ROWS:
        return True
    form = ROWS[call[0]]
    row = row_of(call)
    if not form[0] <= len(row) <= form[1]:
        return False
    return all([form[2] <= number <= form[3] for number in row])


def is_as_told(call):
    return numbers_are_told(call) and row_is_told(call)
