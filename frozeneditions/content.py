"""A book: its entries in their row, and their senses with texts and pointers."""

from frozeneditions.rows import put_behind


class Book:
    """order: the entries' names; words and rows: by entry; texts and targets: by sense."""

    def __init__(self):
        self.order = []
        self.words = {}
        self.rows = {}
        self.texts = {}
        self.targets = {}

    def has_entry(self, entry):
        return entry in self.words

    def has_sense(self, sense):
        return sense in self.texts

    def senses(self):
        """All senses, in the order of print."""
        found = []
        for entry in self.order:
            found.extend(self.rows[entry])
        return found

    def make_entry(self, entry, behind, word):
        put_behind(self.order, entry, behind)
        self.words[entry] = word
        self.rows[entry] = []

    def make_sense(self, sense, entry, behind, text):
        put_behind(self.rows[entry], sense, behind)
        self.texts[sense] = text
        self.targets[sense] = 0

    def say(self, sense, text):
        self.texts[sense] = text

    def point(self, sense, target):
        self.targets[sense] = target

    def move_entry(self, entry, behind):
        self.order.remove(entry)
        put_behind(self.order, entry, behind)

    def move_sense(self, sense, entry, behind):
        self.take_out(sense)
        put_behind(self.rows[entry], sense, behind)

    def drop_entry(self, entry):
        self.order.remove(entry)
        self.words.pop(entry)
        gone = self.rows.pop(entry)
        for sense in gone:
            self.forget(sense)

    def drop_sense(self, sense):
        self.take_out(sense)
        self.forget(sense)

    def home_of(self, sense):
        for entry in self.order:
            if sense in self.rows[entry]:
                return entry
        return 0

    def take_out(self, sense):
        self.rows[self.home_of(sense)].remove(sense)

    def forget(self, sense):
        self.texts.pop(sense)
        self.targets.pop(sense)


def copied(book):
    """A book of its own; words and texts are shared, for they are never changed in place."""
    twin = Book()
    twin.order = list(book.order)
    twin.words = dict(book.words)
    for entry in book.order:
        twin.rows[entry] = list(book.rows[entry])
    twin.texts = dict(book.texts)
    twin.targets = dict(book.targets)
    return twin
