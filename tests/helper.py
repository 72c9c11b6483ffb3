"""What the tests share: calls as lists of numbers, answers call by call, and a book that is kept by hand."""

import random
import unittest

from frozeneditions.book import answers


def numbers(row):
    return list(row.encode("ascii")) if isinstance(row, str) else list(row)


def with_row(ahead, row):
    return ahead + [len(numbers(row))] + numbers(row)


def entry(behind, word="a"):
    return with_row([0, behind], word)


def sense(home, behind, text=""):
    return with_row([1, home, behind], text)


def say(name, text=""):
    return with_row([2, name], text)


def point(name, to):
    return [3, name, to]


def movesense(name, home, behind):
    return [4, name, home, behind]


def moveentry(name, behind):
    return [5, name, behind]


def dropsense(name):
    return [6, name]


def dropentry(name):
    return [7, name]


def erratum(edition, name, text=""):
    return with_row([8, edition, name], text)


def freeze():
    return [9]


def print_book(book):
    return [10, book]


def corrected(edition):
    return [11, edition]


def changes(first, second):
    return [12, first, second]


def patch(book, row):
    return with_row([13, book], row)


def number(book, name):
    return [14, book, name]


def name_at(book, entry_place, sense_place):
    return [15, book, entry_place, sense_place]


def carry(book, entry_place, sense_place, other):
    return [16, book, entry_place, sense_place, other]


def pointers(book):
    return [17, book]


def dead(book):
    return [18, book]


def blame(book, name):
    return [19, book, name]


def check(row):
    return with_row([20], row)


def errata(edition):
    return [21, edition]


def line(place):
    return [22, place]


def size(book):
    return [23, book]


def state():
    return [24]


def split(told):
    """The answers one by one, each without its count."""
    found = []
    at = 0
    while at < len(told):
        found.append(told[at + 1:at + 1 + told[at]])
        at += 1 + told[at]
    return found


def run(*calls):
    # No more is handed in than may be.
    assert len(calls) <= 250 and sum(call[0] == 13 for call in calls) <= 20, len(calls)
    assert sum(len(call) for call in calls) <= 17000
    return split(answers([number for call in calls for number in call]))


def last(*calls):
    return run(*calls)[-1]


def printed(*calls):
    """The text that the last of the calls answers."""
    answer = last(*calls)
    assert answer[0] == 0, answer
    return bytes(answer[1:]).decode("ascii")


def told_changes(answer):
    """Each change of an answer to changes, as its four numbers and its bytes as a text."""
    assert answer[0] == 0, answer
    found = []
    at = 2
    while at < len(answer):
        end = at + 5 + answer[at + 4]
        found.append(tuple(answer[at:at + 4]) + (bytes(answer[at + 5:end]).decode("ascii"),))
        at = end
    assert at == len(answer) and len(found) == answer[1], answer
    return found


def as_numbers(*told):
    """Changes, each as its kind, its three numbers and its bytes as a text, as one row of numbers."""
    return [one for kind, *three, text in told for one in [kind, *three] + [len(numbers(text))] + numbers(text)]


# 200 lines of the log: one entry, two senses in it, and sayings.
FULL_LOG = [entry(0), sense(1, 0), sense(1, 1)] + [say(1, "x")] * 197


def probes():
    """Calls whose answers show all that a call could have changed."""
    shown = [state(), print_book(0), pointers(0), freeze(), state(), line(1), line(2), blame(0, 1)]
    for edition in range(1, 4):
        shown += [print_book(edition), corrected(edition), errata(edition), changes(edition, 0), changes(0, edition)]
    return shown + [entry(0, "probe"), sense(1, 0, "probe"), print_book(0), state()]


class Case(unittest.TestCase):
    def assert_only_told(self, wanted, setup, call):
        """The call is answered so, behind the calls of setup, and nothing has changed."""
        setup = list(setup)
        without = run(*setup, *probes())
        told = run(*setup, call, *probes())
        self.assertEqual(told[len(setup)], wanted)
        self.assertEqual(told[:len(setup)] + told[len(setup) + 1:], without)

    def assert_refused(self, refusal, setup, call):
        self.assert_only_told([refusal], setup, call)

    def assert_accepted(self, setup, call):
        self.assertEqual(last(*setup, call)[0], 0)


class Model:
    """A book as nested lists, changed by hand: [name, word, [[name, text, target], ..]] for each entry."""

    def __init__(self, entries=()):
        self.entries = [[name, word, [list(one) for one in senses]] for name, word, senses in entries]

    def copy(self):
        return Model(self.entries)

    def entry(self, name):
        return next((one for one in self.entries if one[0] == name), None)

    def sense(self, name):
        return next((one for home in self.entries for one in home[2] if one[0] == name), None)

    @staticmethod
    def put(row, one, behind):
        places = [0] + [other[0] for other in row]
        assert behind in places and behind != one[0], (one, behind, places)
        row.insert(places.index(behind), one)

    def drop_entry(self, name):
        self.entries.remove(self.entry(name))

    def drop_sense(self, name):
        gone = self.sense(name)
        next(home for home in self.entries if gone in home[2])[2].remove(gone)
        return gone

    def move_entry(self, name, behind):
        moved = self.entry(name)
        self.entries.remove(moved)
        self.put(self.entries, moved, behind)

    def apply(self, change):
        kind, one, two, three, text = change
        if kind == 1:
            self.drop_entry(one)
        elif kind == 2:
            self.drop_sense(one)
        elif kind == 3:
            assert self.entry(one) is None
            self.put(self.entries, [one, text, []], two)
        elif kind == 4:
            self.move_entry(one, two)
        elif kind == 5:
            assert self.sense(one) is None
            self.put(self.entry(two)[2], [one, text, 0], three)
        elif kind == 6:
            self.put(self.entry(two)[2], self.drop_sense(one), three)
        elif kind == 7:
            self.sense(one)[1] = text
        elif kind == 8:
            self.sense(one)[2] = two
        else:
            raise AssertionError(change)

    def number(self, name):
        for place, home in enumerate(self.entries, 1):
            for inner, one in enumerate(home[2], 1):
                if one[0] == name:
                    return f"{place}.{inner}"
        return "0.0"

    def printed(self):
        lines = []
        for place, (_, word, senses) in enumerate(self.entries, 1):
            lines.append(f"{place} {word}\n")
            for inner, (_, text, target) in enumerate(senses, 1):
                pointed = self.number(target) if target else "-"
                lines.append(f"{place}.{inner} {pointed} {text}\n")
        return "".join(lines)


def some_act(source):
    """One act with numbers that are often there; not all are accepted."""
    name = source.randint(1, 12)
    other = source.randint(0, 12)
    home = source.randint(1, 6)
    text = "".join(source.choices("xyz ", k=source.randint(0, 3)))
    return source.choice([
        entry(source.randint(0, 6), source.choice(["ant", "bee"])), sense(home, other, text), sense(home, 0, text),
        say(name, text), point(name, other), movesense(name, home, other), movesense(name, home, 0),
        moveentry(home, source.randint(0, 6)), dropsense(name) if source.random() < 0.5 else say(name, text),
        dropentry(home) if source.random() < 0.5 else moveentry(home, 0)])


def done_to(model, call, answer):
    """What an accepted act does, told as a change."""
    kind = {0: 3, 1: 5, 2: 7, 3: 8, 4: 6, 5: 4, 6: 2, 7: 1}[call[0]]
    # How many of the numbers behind the call's own are none of its row.
    count = {0: 1, 1: 2, 2: 1, 3: 2, 4: 3, 5: 2, 6: 1, 7: 1}[call[0]]
    given = call[1:1 + count]
    text = bytes(call[2 + count:]).decode("ascii")
    made = [answer[2]] if call[0] in (0, 1) else []
    model.apply((kind, *(made + given + [0, 0])[:3], text))


def history(seed):
    """A row of acts with four freezes among them, the same in every run; by hand, the book now and each edition."""
    source = random.Random(seed)
    acts = [some_act(source) for _ in range(source.randint(5, 120))]
    freezes = sorted(source.randrange(len(acts)) for _ in range(4))
    calls = []
    for place, act in enumerate(acts):
        calls += [freeze()] * freezes.count(place) + [act]
    model = Model()
    models = []
    for call, answer in zip(calls, run(*calls)):
        if call == freeze():
            models.append(model.copy())
        elif answer[0] == 0:
            done_to(model, call, answer)
    return calls, [model] + models
