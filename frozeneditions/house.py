"""A house: the book now, the log of the acts on it, and the frozen editions."""

from frozeneditions.content import Book
from frozeneditions.content import copied

MOST_ENTRIES = 20
MOST_SENSES = 50
MOST_LINES = 200
MOST_EDITIONS = 10
ERRATUM = 8


class House:
    def __init__(self):
        self.now = Book()
        self.log = []
        self.editions = []
        # Counted apart from the book, for a dropped one's name is never given again.
        self.entries_made = 0
        self.senses_made = 0

    def log_is_full(self):
        return len(self.log) >= MOST_LINES

    def no_more_entries(self):
        return self.entries_made >= MOST_ENTRIES or self.log_is_full()

    def no_more_senses(self):
        return self.senses_made >= MOST_SENSES or self.log_is_full()

    def no_more_editions(self):
        return len(self.editions) >= MOST_EDITIONS

    def note(self, call, numbers, row):
        """Add a line to the log; the log's length then."""
        self.log.append((call, numbers, row))
        return len(self.log)

    def freeze(self):
        self.editions.append(copied(self.now))

    def has_book(self, number):
        return number <= len(self.editions)

    def book(self, number):
        if number == 0:
            return self.now
        return self.editions[number - 1]

    def corrected(self, edition):
        """A copy of the edition that says what its errata ask for."""
        book = copied(self.book(edition))
        for call, numbers, row in self.log:
            if call == ERRATUM and numbers[0] == edition:
                book.say(numbers[1], row)
        return book
