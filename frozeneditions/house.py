"""A house: the book now, the log of the acts on it, and the frozen editions."""

from frozeneditions.content import Book
from frozeneditions.content import copied

MOST_ENTRIES = 20
MOST_SENSES = 50
MOST_LINES = 200
MOST_EDITIONS = 10
SENSE_MADE = 1
SENSE_MOVED = 4
ERRATUM = 8


class House:
    """log: of each act the call, its numbers, its row; lengths: the log's length of each edition."""

    def __init__(self):
        self.now = Book()
        self.log = []
        self.editions = []
        self.lengths = []
        # Counted apart from the book, for a dropped one's name is never given again.
        self.entries_made = 0
        self.senses_made = 0

    def log_is_full(self):
        return len(self.log) >= MOST_LINES

    def no_more_entries(self):
        return self.entries_made >= MOST_ENTRIES or self.log_is_full()

    def no_more_senses(self):
        return self.senses_made >= MOST_SENSES or self.log_is_full()

    def no_more_editions(self):
        return len(self.editions) >= MOST_EDITIONS

    def note(self, call, numbers, row):
        """Add a line to the log; the log's length then."""
        self.log.append((call, numbers, row))
        return len(self.log)

    def freeze(self):
        self.editions.append(copied(self.now))
        self.lengths.append(len(self.log))

    def has_book(self, number):
        return number <= len(self.editions)

    def book(self, number):
        if number == 0:
            return self.now
        return self.editions[number - 1]

    def length(self, number):
        """The log's length of this book."""
        if number == 0:
            return len(self.log)
        return self.lengths[number - 1]

    def errata(self, edition):
        """The log's lines of the errata beside this edition."""
        return [line for line in self.log if line[0] == ERRATUM and line[1][0] == edition]

    def corrected(self, edition):
        """A copy of the edition that says what its errata ask for."""
        book = copied(self.book(edition))
        for call, numbers, text in self.errata(edition):
            book.say(numbers[1], text)
        return book

    def blame(self, number, sense):
        """Up to this book's length: the last lines of the calls 1 to 4 of the sense, and how many there are."""
        last_lines = [0, 0, 0, 0]
        count = 0
        senses_made = 0
        for place, line in enumerate(self.log[:self.length(number)], start=1):
            call = line[0]
            if call == SENSE_MADE:
                # The line doesn't hold the name that was given: names are given by counting.
                senses_made += 1
                blamed = senses_made
            else:
                blamed = line[1][0]
            if SENSE_MADE <= call <= SENSE_MOVED and blamed == sense:
                last_lines[call - 1] = place
                count += 1
        return last_lines + [count]
