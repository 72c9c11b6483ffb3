"""-1: each number and each row of the calls 0 to 12, just in and just out of what is told."""

from tests.helper import (Case, changes, corrected, dropentry, dropsense, entry, erratum, freeze, last, moveentry,
                          movesense, point, print_book, printed, run, say, sense)

# 20 entries, 50 senses in the last of them, 10 editions: whatever a number in its range names is there.
ENTRIES = [entry(name, "w") for name in range(20)]
SENSES = [sense(20, name, "t") for name in range(50)]
EDITIONS = [freeze()] * 10
WHOLE = ENTRIES + SENSES + EDITIONS
FAR = 1000000000000000000

ENTRY = (1, 20)
SENSE = (1, 50)
EDITION = (1, 10)
BOOK = (0, 10)

# Each call with one number free, and the range told of it.
NUMBERS = [
    ("entry behind", lambda n: entry(n), (0, 20)),
    ("sense entry", lambda n: sense(n, 0), ENTRY),
    ("sense behind", lambda n: sense(20, n), (0, 50)),
    ("say sense", lambda n: say(n), SENSE),
    ("point sense", lambda n: point(n, 1), SENSE),
    ("point to", lambda n: point(1, n), (0, 50)),
    ("movesense sense", lambda n: movesense(n, 1, 0), SENSE),
    ("movesense entry", lambda n: movesense(1, n, 0), ENTRY),
    ("movesense behind", lambda n: movesense(25, 20, n), (0, 50)),
    ("moveentry entry", lambda n: moveentry(n, 0), ENTRY),
    ("moveentry behind", lambda n: moveentry(10, n), (0, 20)),
    ("dropsense sense", lambda n: dropsense(n), SENSE),
    ("dropentry entry", lambda n: dropentry(n), ENTRY),
    ("erratum edition", lambda n: erratum(n, 1), EDITION),
    ("erratum sense", lambda n: erratum(1, n), SENSE),
    ("print book", lambda n: print_book(n), BOOK),
    ("corrected edition", lambda n: corrected(n), EDITION),
    ("changes first", lambda n: changes(n, 0), BOOK),
    ("changes second", lambda n: changes(0, n), BOOK),
]
MAKERS = ("entry behind", "sense entry", "sense behind")

TEXTS = [
    ("sense", lambda text: sense(1, 0, text), [entry(0)]),
    ("say", lambda text: say(1, text), [entry(0), sense(1, 0)]),
    ("erratum", lambda text: erratum(1, 1, text), [entry(0), sense(1, 0), freeze()]),
]


class NumberTest(Case):
    def test_just_in(self):
        for title, call, bounds in NUMBERS:
            for number in bounds:
                with self.subTest(title, number=number):
                    # All entries and senses are made, so a call that makes one gets as far as -4.
                    wanted = -4 if title in MAKERS else 0
                    self.assertEqual(last(*WHOLE, call(number))[0], wanted)

    def test_just_out_and_far_out(self):
        for title, call, bounds in NUMBERS:
            for number in (bounds[0] - 1, bounds[1] + 1, -FAR, FAR):
                with self.subTest(title, number=number):
                    self.assert_refused(-1, WHOLE, call(number))

    def test_out_of_range_goes_ahead_of_what_is_not_there(self):
        for title, call, bounds in NUMBERS:
            with self.subTest(title):
                self.assert_refused(-1, [], call(bounds[0] - 1))
                self.assert_refused(-1, [], call(bounds[1] + 1))

    def test_out_of_range_behind_a_number_that_is_refused_otherwise(self):
        for call in (sense(7, 51), point(7, 51), movesense(7, 21, 0), movesense(7, 7, 51), movesense(7, 7, -1),
                     moveentry(7, 21), erratum(7, 51), changes(7, 11), changes(7, -1)):
            self.assert_refused(-1, [], call)


class WordTest(Case):
    def test_lengths(self):
        for length in (1, 2, 11, 12):
            word = "a" * length
            self.assertEqual(run(entry(0, word), print_book(0)), [[0, 1, 1], [0] + list(f"1 {word}\n".encode())])
        for length in (0, 13, 14, 3500):
            self.assert_refused(-1, [], entry(0, "a" * length))

    def test_letters(self):
        for word in ("a", "z", "az" * 6):
            self.assert_accepted([], entry(0, word))
        for byte in (96, 123, 65, 90, 48, 32, 0, -1, -97, 255, 256 + 97, FAR, -FAR):
            for row in ([byte], [97, byte], [byte, 97], [97] * 11 + [byte]):
                self.assert_refused(-1, [], entry(0, row))

    def test_a_wrong_word_goes_ahead_of_a_wrong_place(self):
        self.assert_refused(-1, [], entry(5, ""))


class TextTest(Case):
    def test_lengths(self):
        for title, call, setup in TEXTS:
            for length in (0, 1, 29, 30):
                with self.subTest(title, length=length):
                    self.assert_accepted(setup, call("x" * length))
            for length in (31, 32, 3500):
                with self.subTest(title, length=length):
                    self.assert_refused(-1, setup, call("x" * length))

    def test_bytes(self):
        for title, call, setup in TEXTS:
            with self.subTest(title):
                self.assert_accepted(setup, call([32]))
                self.assert_accepted(setup, call([126]))
                self.assert_accepted(setup, call([32, 126] * 15))
                for byte in (31, 127, 10, 0, -1, -32, 255, 256 + 65, FAR, -FAR):
                    for row in ([byte], [65, byte], [byte, 65], [65] * 29 + [byte]):
                        self.assert_refused(-1, setup, call(row))

    def test_a_text_at_the_edges_is_printed_as_it_is(self):
        text = " ~" * 15
        setup = [entry(0), sense(1, 0, text)]
        self.assertEqual(printed(*setup, print_book(0)), f"1 a\n1.1 - {text}\n")

    def test_a_wrong_text_goes_ahead_of_what_is_not_there(self):
        for call in (sense(1, 1, [31]), say(1, [127]), erratum(1, 1, "x" * 31)):
            self.assert_refused(-1, [], call)
