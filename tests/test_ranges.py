"""-1: each number and each row of a call, just in and just out of what is told."""

from tests.helper import (FULL_LOG, Case, as_numbers, blame, carry, changes, check, corrected, dead, dropentry,
                          dropsense, entry, errata, erratum, freeze, last, line, moveentry, movesense, name_at, number,
                          patch, point, pointers, print_book, printed, run, say, sense, size)

# 20 entries, 50 senses in the last of them, 10 editions: whatever a number in its range names is there.
ENTRIES = [entry(name, "w") for name in range(20)]
SENSES = [sense(20, name, "t") for name in range(50)]
EDITIONS = [freeze()] * 10
WHOLE = ENTRIES + SENSES + EDITIONS
FAR = 1000000000000000000

ENTRY = (1, 20)
SENSE = (1, 50)
EDITION = (1, 10)
BOOK = (0, 10)

# Each call with one number free, and the range told of it.
NUMBERS = [
    ("entry behind", lambda n: entry(n), (0, 20)),
    ("sense entry", lambda n: sense(n, 0), ENTRY),
    ("sense behind", lambda n: sense(20, n), (0, 50)),
    ("say sense", lambda n: say(n), SENSE),
    ("point sense", lambda n: point(n, 1), SENSE),
    ("point to", lambda n: point(1, n), (0, 50)),
    ("movesense sense", lambda n: movesense(n, 1, 0), SENSE),
    ("movesense entry", lambda n: movesense(1, n, 0), ENTRY),
    ("movesense behind", lambda n: movesense(25, 20, n), (0, 50)),
    ("moveentry entry", lambda n: moveentry(n, 0), ENTRY),
    ("moveentry behind", lambda n: moveentry(10, n), (0, 20)),
    ("dropsense sense", lambda n: dropsense(n), SENSE),
    ("dropentry entry", lambda n: dropentry(n), ENTRY),
    ("erratum edition", lambda n: erratum(n, 1), EDITION),
    ("erratum sense", lambda n: erratum(1, n), SENSE),
    ("print book", lambda n: print_book(n), BOOK),
    ("corrected edition", lambda n: corrected(n), EDITION),
    ("changes first", lambda n: changes(n, 0), BOOK),
    ("changes second", lambda n: changes(0, n), BOOK),
    ("patch book", lambda n: patch(n, []), BOOK),
    ("number book", lambda n: number(n, 1), BOOK),
    ("number sense", lambda n: number(0, n), SENSE),
    ("name book", lambda n: name_at(n, 1, 1), BOOK),
    ("name entry_place", lambda n: name_at(0, n, 1), (1, 20)),
    ("name sense_place", lambda n: name_at(0, 20, n), (1, 50)),
    ("carry book", lambda n: carry(n, 20, 1, 0), BOOK),
    ("carry entry_place", lambda n: carry(0, n, 1, 0), (1, 20)),
    ("carry sense_place", lambda n: carry(0, 20, n, 0), (1, 50)),
    ("carry other", lambda n: carry(0, 20, 1, n), BOOK),
    ("pointers book", lambda n: pointers(n), BOOK),
    ("dead book", lambda n: dead(n), BOOK),
    ("blame book", lambda n: blame(n, 1), BOOK),
    ("blame sense", lambda n: blame(0, n), SENSE),
    ("errata edition", lambda n: errata(n), EDITION),
    ("line number", lambda n: line(n), (1, 200)),
    ("size book", lambda n: size(n), BOOK),
]

# In range, but refused otherwise: all entries and senses are made; entry 1 has no senses; the log has 70 lines.
REFUSED_IN_RANGE = {
    ("entry behind", 0): -4,
    ("entry behind", 20): -4,
    ("sense entry", 1): -4,
    ("sense entry", 20): -4,
    ("sense behind", 0): -4,
    ("sense behind", 50): -4,
    ("carry entry_place", 1): -6,
    ("line number", 200): -5,
}

TEXTS = [
    ("sense", lambda text: sense(1, 0, text), [entry(0)]),
    ("say", lambda text: say(1, text), [entry(0), sense(1, 0)]),
    ("erratum", lambda text: erratum(1, 1, text), [entry(0), sense(1, 0), freeze()]),
]


class NumberTest(Case):
    def test_just_in(self):
        for title, call, bounds in NUMBERS:
            for edge in bounds:
                with self.subTest(title, edge=edge):
                    wanted = REFUSED_IN_RANGE.get((title, edge), 0)
                    self.assertEqual(last(*WHOLE, call(edge))[0], wanted)

    def test_just_out_and_far_out(self):
        for title, call, bounds in NUMBERS:
            for beyond in (bounds[0] - 1, bounds[1] + 1, -FAR, FAR):
                with self.subTest(title, beyond=beyond):
                    self.assert_refused(-1, WHOLE, call(beyond))

    def test_out_of_range_goes_ahead_of_what_is_not_there(self):
        for title, call, bounds in NUMBERS:
            with self.subTest(title):
                self.assert_refused(-1, [], call(bounds[0] - 1))
                self.assert_refused(-1, [], call(bounds[1] + 1))

    def test_out_of_range_behind_a_number_that_is_refused_otherwise(self):
        for call in (sense(7, 51), point(7, 51), movesense(7, 21, 0), movesense(7, 7, 51), movesense(7, 7, -1),
                     moveentry(7, 21), erratum(7, 51), changes(7, 11), changes(7, -1), number(7, 51), number(7, 0),
                     name_at(7, 21, 1), name_at(7, 0, 1), name_at(7, 1, 51), name_at(7, 1, 0), carry(7, 21, 1, 0),
                     carry(7, 1, 51, 0), carry(7, 1, 1, 11), carry(0, 1, 1, 11), carry(7, 1, 1, -1), blame(7, 51),
                     blame(7, 0)):
            self.assert_refused(-1, [], call)

    def test_lines_of_a_full_log(self):
        self.assertEqual(last(*FULL_LOG, line(200)), [0, 2, 1, 0, 0, 1, 120])
        self.assertEqual(last(*FULL_LOG, line(201)), [-1])
        self.assertEqual(last(*FULL_LOG, line(0)), [-1])


class WordTest(Case):
    def test_lengths(self):
        for length in (1, 2, 11, 12):
            word = "a" * length
            self.assertEqual(run(entry(0, word), print_book(0)), [[0, 1, 1], [0] + list(f"1 {word}\n".encode())])
        for length in (0, 13, 14, 3500):
            self.assert_refused(-1, [], entry(0, "a" * length))

    def test_letters(self):
        for word in ("a", "z", "az" * 6):
            self.assert_accepted([], entry(0, word))
        for byte in (96, 123, 65, 90, 48, 32, 0, -1, -97, 255, 256 + 97, FAR, -FAR):
            for row in ([byte], [97, byte], [byte, 97], [97] * 11 + [byte]):
                self.assert_refused(-1, [], entry(0, row))

    def test_a_wrong_word_goes_ahead_of_a_wrong_place(self):
        self.assert_refused(-1, [], entry(5, ""))


class TextTest(Case):
    def test_lengths(self):
        for title, call, setup in TEXTS:
            for length in (0, 1, 29, 30):
                with self.subTest(title, length=length):
                    self.assert_accepted(setup, call("x" * length))
            for length in (31, 32, 3500):
                with self.subTest(title, length=length):
                    self.assert_refused(-1, setup, call("x" * length))

    def test_bytes(self):
        for title, call, setup in TEXTS:
            with self.subTest(title):
                self.assert_accepted(setup, call([32]))
                self.assert_accepted(setup, call([126]))
                self.assert_accepted(setup, call([32, 126] * 15))
                for byte in (31, 127, 10, 0, -1, -32, 255, 256 + 65, FAR, -FAR):
                    for row in ([byte], [65, byte], [byte, 65], [65] * 29 + [byte]):
                        self.assert_refused(-1, setup, call(row))

    def test_a_text_at_the_edges_is_printed_as_it_is(self):
        text = " ~" * 15
        setup = [entry(0), sense(1, 0, text)]
        self.assertEqual(printed(*setup, print_book(0)), f"1 a\n1.1 - {text}\n")

    def test_a_wrong_text_goes_ahead_of_what_is_not_there(self):
        for call in (sense(1, 1, [31]), say(1, [127]), erratum(1, 1, "x" * 31)):
            self.assert_refused(-1, [], call)


class ChangesRowTest(Case):
    def test_lengths(self):
        self.assertEqual(last(patch(0, [])), [0, 0])
        # 600 changes of five numbers, then one number more.
        row = as_numbers((8, 1, 0, 0, "")) * 600
        setup = [entry(0), sense(1, 0, "x")]
        self.assertEqual(last(*setup, patch(0, row)), [0, 0] + list(b"1 a\n1.1 - x\n"))
        self.assert_refused(-1, setup, patch(0, row + [0]))
        self.assert_refused(-1, setup, patch(0, [8] * 3500))

    def test_3000_numbers_that_are_no_changes(self):
        self.assert_refused(-3, [], patch(0, [8] * 3000))
        self.assert_refused(-1, [], patch(0, [8] * 3001))

    def test_any_number_may_stand_in_it(self):
        for one in (-FAR, -1, 101, FAR):
            self.assert_refused(-3, [], patch(0, [one]))

    def test_too_many_numbers_go_ahead_of_a_book_that_is_not_there(self):
        self.assert_refused(-1, [], patch(1, [0] * 3001))
        self.assert_refused(-8, [], patch(1, [0] * 3000))

    def test_a_wrong_book_goes_ahead_of_no_changes(self):
        self.assert_refused(-1, [], patch(11, [0]))
        self.assert_refused(-1, [], patch(-1, [0]))


class PrintRowTest(Case):
    def test_lengths(self):
        self.assertEqual(last(check([])), [0, 0, 0, 0])
        self.assertEqual(last(check([10] * 3000)), [0, 1, 1])
        self.assert_refused(-1, [], check([10] * 3001))
        self.assert_refused(-1, [], check([10] * 3500))

    def test_3000_bytes_that_are_right(self):
        lines = b"1 a\n"
        place = 1
        while len(lines) < 2970:
            lines += b"1.%d - " % place + b"x" * 28 + b"\n"
            place += 1
        lines += b"1.%d - " % place + b"y" * (2992 - len(lines)) + b"\n"
        self.assertEqual(len(lines), 3000)
        self.assertEqual(last(check(lines)), [0, 0, 1, place])
        self.assertEqual(last(check(lines + b"z")), [-1])

    def test_bytes(self):
        for byte in (0, 255):
            self.assertEqual(last(check([byte])), [0, 1, 1])
            self.assertEqual(last(check([49, 32, 97, 10, byte, 10])), [0, 1, 2])
        for byte in (-1, 256, 256 + 10, FAR, -FAR):
            self.assert_refused(-1, [], check([byte]))
            self.assert_refused(-1, [], check([49, 32, 97, byte]))
            self.assert_refused(-1, [], check([byte] + [10] * 2999))

    def test_a_byte_that_is_none_goes_ahead_of_a_wrong_line(self):
        self.assert_refused(-1, [], check([10, 256]))
