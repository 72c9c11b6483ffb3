"""Rows of names: where a name may be put, and which names of two rows stay."""


def is_place(row, behind):
    return behind == 0 or behind in row


def put_behind(row, name, behind):
    if behind == 0:
        row.insert(0, name)
    else:
        row.insert(row.index(behind) + 1, name)


def places_of(row):
    places = {}
    for place, name in enumerate(row):
        places[name] = place
    return places


def rising_lengths(places):
    """For each place, the length of the longest rising row that begins with it."""
    lengths = [1] * len(places)
    for start in range(len(places) - 1, -1, -1):
        for later in range(start + 1, len(places)):
            if places[later] > places[start]:
                lengths[start] = max(lengths[start], lengths[later] + 1)
    return lengths


def those_that_stay(old, new):
    """A longest row of names in one order in both; of several, the earliest in the old row."""
    new_places = places_of(new)
    common = [name for name in old if name in new_places]
    places = [new_places[name] for name in common]
    lengths = rising_lengths(places)
    wanted = max(lengths, default=0)
    last_place = -1
    stay = []
    # Whatever can begin the rest of a longest row may be taken as soon as it comes.
    for name, place, length in zip(common, places, lengths):
        if length == wanted and place > last_place:
            stay.append(name)
            last_place = place
            wanted -= 1
    return stay
