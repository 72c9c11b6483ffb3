"""Call 20: a print read back, and its first wrong line."""

import random
import re

from tests.helper import Case, check, corrected, entry, erratum, freeze, history, last, point, print_book, run, sense

ENTRY = "1 ant\n"
SENSES = "1.1 - one\n1.2 1.1 two\n"


class Read(Case):
    def assert_read(self, row, entries, senses):
        self.assertEqual(last(check(row)), [0, 0, entries, senses], row)

    def assert_wrong(self, row, place):
        self.assertEqual(last(check(row)), [0, 1, place], row)

    def assert_wrong_line(self, text, ahead=ENTRY):
        """The line is wrong behind those ahead, whatever comes behind it."""
        place = ahead.count("\n") + 1
        for behind in ("", "2 bee\n", "!\n", "1.1 - one"):
            self.assert_wrong(ahead + text + "\n" + behind, place)


class RightTest(Read):
    def test_an_empty_print(self):
        self.assert_read("", 0, 0)

    def test_entries_alone(self):
        self.assert_read(ENTRY, 1, 0)
        self.assert_read("1 ant\n2 bee\n3 a\n", 3, 0)

    def test_entries_with_senses(self):
        self.assert_read(ENTRY + SENSES, 1, 2)
        self.assert_read(ENTRY + SENSES + "2 bee\n2.1 1.1 three\n3 cow\n", 3, 3)

    def test_words(self):
        for word in ("a", "z", "abcdefghijkl", "z" * 12):
            self.assert_read(f"1 {word}\n", 1, 0)

    def test_texts(self):
        for text in ("", " ", "~", "x" * 30, " " * 30, " ~" * 15, "1.1 - x", "-", "- ", "2 bee"):
            self.assert_read(f"1 ant\n1.1 - {text}\n", 1, 1)
            self.assert_read(f"1 ant\n1.1 1.1 {text}\n", 1, 1)

    def test_every_byte_of_a_text(self):
        for byte in range(256):
            row = list(b"1 ant\n1.1 - x") + [byte] + list(b"y\n")
            if 32 <= byte <= 126:
                self.assert_read(row, 1, 1)
            else:
                # Byte 10 ends the line ahead of what is wrong then.
                self.assert_wrong(row, 3 if byte == 10 else 2)

    def test_every_byte_of_a_word(self):
        for byte in range(256):
            row = list(b"1 a") + [byte] + list(b"b\n")
            if 97 <= byte <= 122:
                self.assert_read(row, 1, 0)
            else:
                self.assert_wrong(row, 2 if byte == 10 else 1)

    def test_pointers(self):
        for pointed in ("-", "0.0", "1.1", "0.5", "5.0", "0.99", "99.0", "99.99", "10.10", "9.9", "20.50"):
            self.assert_read(f"1 ant\n1.1 {pointed} x\n", 1, 1)

    def test_a_pointer_to_what_is_not_there(self):
        self.assert_read("1 ant\n1.1 7.7 x\n2 bee\n2.1 1.2 y\n", 2, 2)

    def test_99_entries(self):
        lines = "".join(f"{place} a\n" for place in range(1, 100))
        self.assert_read(lines, 99, 0)
        self.assert_read(lines + "99.1 - x\n", 99, 1)
        self.assert_wrong(lines + "100 a\n", 100)
        self.assert_wrong(lines + "99.1 - x\n100 a\n", 101)
        self.assert_wrong(lines + "99 a\n", 100)
        self.assert_wrong(lines + "00 a\n", 100)
        self.assert_wrong(lines + "0 a\n", 100)

    def test_99_senses(self):
        lines = ENTRY + "".join(f"1.{place} - \n" for place in range(1, 100))
        self.assert_read(lines, 1, 99)
        self.assert_read(lines + "2 bee\n2.1 - x\n", 2, 100)
        self.assert_wrong(lines + "1.100 - \n", 101)
        self.assert_wrong(lines + "1.99 - \n", 101)
        self.assert_wrong(lines + "1.00 - \n", 101)
        self.assert_wrong(lines + "1.0 - \n", 101)


class WrongLineTest(Read):
    def test_an_entrys_number(self):
        for first in ("0 ant", "2 ant", "01 ant", "001 ant", "10 ant", "11 ant", "-1 ant", "+1 ant", " 1 ant", "a ant",
                      " ant", "ant", "1. ant", "1.0 ant"):
            self.assert_wrong_line(first, "")
        for second in ("1 bee", "3 bee", "0 bee", "02 bee", "12 bee", "20 bee", "22 bee"):
            self.assert_wrong_line(second, ENTRY)
            self.assert_wrong_line(second, ENTRY + SENSES)
        nine = "".join(f"{place} a\n" for place in range(1, 10))
        for tenth in ("1 a", "9 a", "11 a", "010 a", "0 a", "100 a", "1 0 a"):
            self.assert_wrong_line(tenth, nine)

    def test_a_word(self):
        for text in ("1", "1 ", "1  ", "1 a ", "1  a", "1 a b", "1 A", "1 aB", "1 a1", "1 1", "1 a-", "1 " + "a" * 13,
                     "1 " + "a" * 100, "1a", "1\tant", "1 ant\r", "1.ant", "1-ant"):
            self.assert_wrong_line(text, "")

    def test_an_empty_line(self):
        self.assert_wrong("\n", 1)
        self.assert_wrong("\n" + ENTRY, 1)
        self.assert_wrong_line("")
        self.assert_wrong_line("", ENTRY + SENSES)

    def test_a_sense_ahead_of_any_entry(self):
        for text in ("0.1 - x", "1.1 - x", "0.0 - x", ".1 - x", "0.1 1.1 x"):
            self.assert_wrong_line(text, "")

    def test_a_senses_entry(self):
        for text in ("0.1 - x", "2.1 - x", "01.1 - x", "10.1 - x", "11.1 - x", ".1 - x", "a.1 - x", " 1.1 - x"):
            self.assert_wrong_line(text)
        two = ENTRY + SENSES + "2 bee\n"
        for text in ("1.3 - x", "1.1 - x", "3.1 - x", "2.3 - x", "02.1 - x"):
            self.assert_wrong_line(text, two)

    def test_a_senses_own_number(self):
        for text in ("1.0 - x", "1.2 - x", "1.01 - x", "1.10 - x", "1.11 - x", "1. - x", "1.a - x", "1.1. - x",
                     "1.1.1 - x", "1..1 - x", "1,1 - x", "11 - x", "1 - x"):
            self.assert_wrong_line(text)
        for text in ("1.1 - x", "1.2 - x", "1.4 - x", "1.03 - x", "1.30 - x"):
            self.assert_wrong_line(text, ENTRY + SENSES)

    def test_senses_are_counted_in_each_entry_anew(self):
        self.assert_wrong(ENTRY + SENSES + "2 bee\n2.3 - x\n", 5)
        self.assert_read(ENTRY + SENSES + "2 bee\n2.1 - x\n", 2, 3)

    def test_missing_blanks(self):
        for text in ("1.1", "1.1 ", "1.1 -", "1.1-", "1.1- x", "1.1 -x", "1.1 1.1", "1.1 1.1x", "1.11.1 x",
                     "1.1 1.1-x", "1.1\t- x", "1.1 -\tx", "1.1  x", "1.1  - x"):
            self.assert_wrong_line(text)

    def test_pointers(self):
        for pointed in ("", "--", "0", "1", "1.", ".1", ".", "..", "1..1", "1.1.1", "01.1", "1.01", "00.1", "1.00",
                        "00.00", "100.1", "1.100", "000.0", "-1.1", "1.-1", "+1.1", "a.1", "1.a", "1,1", "-.-", "-.1",
                        "1.1-", "x", "*", "1:1", "/.1", "1./", ":.1", "1.:"):
            self.assert_wrong_line(f"1.1 {pointed} x")

    def test_a_text(self):
        for text in ("x" * 31, "x" * 100, "x\t", "\t", "x\r", "\x7f", "\x1f", "\x00"):
            self.assert_wrong_line(f"1.1 - {text}")
            self.assert_wrong_line(f"1.1 99.99 {text}")

    def test_the_first_is_told(self):
        self.assert_wrong("1 ant\n2 bee\n!\n!\n3 cow\n!\n", 3)

    def test_the_last_of_3000(self):
        self.assert_wrong("1 ant\n1.1 - x\n" + "\n" * 2985, 3)


class BehindTheLastTest(Read):
    def test_what_stands_there_is_a_wrong_line(self):
        for left in ("x", " ", "1", "2 bee", "1.1 - x", "\x00", "2 bee\r"):
            self.assert_wrong(ENTRY + left, 2)
        self.assert_wrong(ENTRY + SENSES + "1.3 - x", 4)
        self.assert_wrong("1 ant", 1)
        self.assert_wrong("x", 1)

    def test_a_wrong_line_ahead_of_it_is_told(self):
        self.assert_wrong("1 ant\n!\n2 bee", 2)

    def test_check_asks_no_book(self):
        setup = [entry(0, "ant"), sense(1, 0), freeze()]
        self.assert_only_told([0, 0, 2, 0], setup, check("1 bee\n2 cow\n"))
        self.assert_only_told([0, 1, 1], setup, check("2 bee\n"))


NUMBER = rb"(0|[1-9][0-9]?)"
ENTRY_LINE = re.compile(NUMBER + rb" [a-z]{1,12}")
SENSE_LINE = re.compile(NUMBER + rb"\." + NUMBER + rb" (?:-|" + NUMBER + rb"\." + NUMBER + rb") [ -~]{0,30}")


def read_by_patterns(row):
    lines = row.split(b"\n")
    left = lines.pop()
    entries = senses = here = 0
    for place, one in enumerate(lines, 1):
        as_entry = ENTRY_LINE.fullmatch(one)
        as_sense = SENSE_LINE.fullmatch(one)
        if as_entry and int(as_entry[1]) == entries + 1:
            entries, here = entries + 1, 0
        elif as_sense and entries and (int(as_sense[1]), int(as_sense[2])) == (entries, here + 1):
            senses, here = senses + 1, here + 1
        else:
            return [0, 1, place]
    return [0, 1, len(lines) + 1] if left else [0, 0, entries, senses]


def spoilt(source, row):
    """The row with one byte changed, taken out or put in."""
    row = bytearray(row)
    place = source.randrange(len(row) + 1)
    byte = source.choice(b"0123456789.- \nax~\x00\x1f\x7f\xff")
    what = source.randrange(3)
    if what == 0 or place == len(row):
        row.insert(place, byte)
    elif what == 1:
        row[place] = byte
    else:
        row.pop(place)
    return bytes(row)


class RoundTest(Case):
    def test_each_book_is_read_back_as_it_was(self):
        for seed in range(150):
            calls, models = history(seed)
            errata = [erratum(edition, name, f"mended {name}") for edition in range(1, 5) for name in range(1, 13)]
            asked = [print_book(book) for book in range(5)] + [corrected(edition) for edition in range(1, 5)]
            prints = run(*calls, *errata, *asked)[-9:]
            told = run(*[check(answer[1:]) for answer in prints])
            for book, answer in zip([0, 1, 2, 3, 4, 1, 2, 3, 4], told):
                entries = models[book].entries
                self.assertEqual(answer, [0, 0, len(entries), sum(len(home[2]) for home in entries)])

    def test_the_greatest_book(self):
        calls = [entry(name, "z" * 12) for name in range(20)] + [sense(20, name, "~" * 30) for name in range(50)]
        calls += [point(name, 50) for name in range(1, 51)]
        told = last(*calls, print_book(0))
        self.assertEqual(last(check(told[1:])), [0, 0, 20, 50])

    def test_prints_with_a_byte_spoilt(self):
        source = random.Random(20)
        outcomes = []
        for seed in range(60):
            calls, models = history(seed)
            row = models[0].printed().encode()
            self.assertEqual(last(check(row)), read_by_patterns(row))
            for _ in range(40):
                wrong = spoilt(source, row)
                answer = last(check(wrong))
                self.assertEqual(answer, read_by_patterns(wrong), wrong)
                outcomes.append(answer[1])
        self.assertGreater(outcomes.count(0), 100)
        self.assertGreater(outcomes.count(1), 100)
