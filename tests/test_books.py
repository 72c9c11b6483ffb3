"""Calls 9 to 11: how a book is printed, what an edition says, and what errata say beside it."""

from tests.helper import (Case, changes, corrected, dropentry, dropsense, entry, erratum, freeze, last, moveentry,
                          movesense, point, print_book, printed, run, say, sense)

SMALL = [entry(0, "ant"), entry(1, "bee"), sense(1, 0, "one"), sense(1, 1, "two"), sense(2, 0, "three"), point(1, 3)]
SMALL_PRINTED = "1 ant\n1.1 2.1 one\n1.2 - two\n2 bee\n2.1 - three\n"
LATER = [say(1, "said"), point(2, 2), movesense(3, 1, 0), moveentry(2, 0), entry(0, "cow"), sense(3, 0, "four"),
         point(1, 0), dropsense(2), dropentry(1), dropentry(2)]


class PrintTest(Case):
    def test_an_empty_book(self):
        self.assertEqual(run(print_book(0), freeze(), print_book(1), corrected(1)), [[0], [0, 1, 0], [0], [0]])

    def test_entries_without_senses(self):
        self.assertEqual(printed(entry(0, "ant"), entry(1, "bee"), print_book(0)), "1 ant\n2 bee\n")

    def test_a_text_of_no_byte(self):
        self.assertEqual(printed(entry(0), sense(1, 0, ""), point(1, 1), sense(1, 1, ""), print_book(0)),
                         "1 a\n1.1 1.1 \n1.2 - \n")

    def test_pointers_to_none_to_what_is_there_and_to_what_is_gone(self):
        calls = SMALL + [point(2, 1), sense(2, 3, "four"), point(4, 2), dropsense(2)]
        self.assertEqual(printed(*calls, print_book(0)),
                         "1 ant\n1.1 2.1 one\n2 bee\n2.1 - three\n2.2 0.0 four\n")

    def test_a_pointer_to_what_went_with_its_entry_is_dead(self):
        self.assertEqual(printed(*SMALL, dropentry(2), print_book(0)), "1 ant\n1.1 0.0 one\n1.2 - two\n")

    def test_a_dead_pointer_does_not_come_to_life(self):
        calls = SMALL + [dropsense(3), sense(2, 0, "new")]
        self.assertEqual(printed(*calls, print_book(0)), "1 ant\n1.1 0.0 one\n1.2 - two\n2 bee\n2.1 - new\n")

    def test_numbers_of_two_digits(self):
        calls = [entry(name, "w") for name in range(20)] + [sense(20, name, "t") for name in range(50)]
        lines = printed(*calls, point(1, 50), print_book(0)).split("\n")
        self.assertEqual(lines[9], "10 w")
        self.assertEqual(lines[19:21], ["20 w", "20.1 20.50 t"])
        self.assertEqual(lines[29], "20.10 - t")
        self.assertEqual(lines[69:], ["20.50 - t", ""])

    def test_a_text_that_looks_like_a_line(self):
        self.assertEqual(printed(entry(0), sense(1, 0, " 1.1 - "), print_book(0)), "1 a\n1.1 -  1.1 - \n")

    def test_print_changes_nothing(self):
        told = run(*SMALL, print_book(0), print_book(0))
        self.assertEqual(told[-1], told[-2])


class FreezeTest(Case):
    def test_answers_its_number_and_the_logs_length(self):
        told = run(freeze(), entry(0), entry(0), freeze(), freeze(), sense(1, 0), freeze())
        self.assertEqual([told[0], told[3], told[4], told[6]], [[0, 1, 0], [0, 2, 2], [0, 3, 2], [0, 4, 3]])

    def test_the_book_now_is_0(self):
        self.assertEqual(printed(*SMALL, freeze(), say(1, "said"), print_book(0)),
                         SMALL_PRINTED.replace("one", "said"))

    def test_an_edition_says_the_same_after_each_later_act(self):
        for count in range(len(LATER) + 1):
            self.assertEqual(printed(*SMALL, freeze(), *LATER[:count], print_book(1)), SMALL_PRINTED)

    def test_an_edition_says_the_same_after_each_act_alone(self):
        for act in (entry(0), sense(1, 0), say(1, "x"), point(1, 2), movesense(1, 2, 0), moveentry(1, 2), dropsense(1),
                    dropentry(1), erratum(1, 1, "x")):
            told = run(*SMALL, freeze(), act, print_book(1), freeze(), print_book(1))
            self.assertEqual(told[-4][0], 0)
            for answer in (told[-3], told[-1]):
                self.assertEqual(bytes(answer[1:]).decode(), SMALL_PRINTED)

    def test_each_edition_says_its_own(self):
        calls = list(SMALL)
        wanted = []
        for act in LATER[:9]:
            wanted.append(last(*calls, print_book(0)))
            calls += [freeze(), act]
        wanted.append(last(*calls, print_book(0)))
        calls += [freeze()] + LATER[9:]
        told = run(*calls, *[print_book(edition) for edition in range(1, 11)])
        self.assertEqual(told[-10:], wanted)


class CorrectedTest(Case):
    def test_without_errata_it_is_the_edition(self):
        self.assertEqual(printed(*SMALL, freeze(), say(1, "said"), corrected(1)), SMALL_PRINTED)

    def test_an_erratum_counts(self):
        self.assertEqual(printed(*SMALL, freeze(), erratum(1, 2, "mended"), corrected(1)),
                         SMALL_PRINTED.replace("two", "mended"))

    def test_an_erratum_of_no_byte_counts(self):
        self.assertEqual(printed(*SMALL, freeze(), erratum(1, 2, ""), corrected(1)), SMALL_PRINTED.replace("two", ""))

    def test_the_last_erratum_of_a_sense_counts(self):
        calls = SMALL + [freeze(), erratum(1, 2, "first"), erratum(1, 3, "other"), erratum(1, 2, "last")]
        self.assertEqual(printed(*calls, corrected(1)), SMALL_PRINTED.replace("two", "last").replace("three", "other"))

    def test_no_book_changes(self):
        calls = SMALL + [freeze(), freeze()]
        told = run(*calls, erratum(1, 2, "mended"), print_book(0), print_book(1), print_book(2), corrected(1),
                   print_book(0), print_book(1), corrected(2), changes(1, 0))
        still = [0] + list(SMALL_PRINTED.encode())
        at = len(calls) + 1
        self.assertEqual(told[at:at + 3], [still] * 3)
        self.assertEqual(told[at + 4:], [still, still, still, [0, 0]])

    def test_errata_stand_beside_their_own_edition(self):
        calls = SMALL + [freeze(), say(2, "later"), freeze(), erratum(2, 2, "second"), erratum(1, 2, "first")]
        self.assertEqual(printed(*calls, corrected(1)), SMALL_PRINTED.replace("two", "first"))
        self.assertEqual(printed(*calls, corrected(2)), SMALL_PRINTED.replace("two", "second"))
        self.assertEqual(printed(*calls, print_book(0)), SMALL_PRINTED.replace("two", "later"))

    def test_an_edition_frozen_later_does_not_have_it(self):
        calls = SMALL + [freeze(), erratum(1, 2, "mended"), freeze()]
        self.assertEqual(printed(*calls, corrected(2)), SMALL_PRINTED)

    def test_an_erratum_goes_ahead_of_a_later_say(self):
        calls = SMALL + [freeze(), erratum(1, 2, "mended"), say(2, "said")]
        self.assertEqual(printed(*calls, corrected(1)), SMALL_PRINTED.replace("two", "mended"))

    def test_the_sense_may_be_gone_by_now(self):
        calls = SMALL + [freeze(), dropentry(1), erratum(1, 2, "mended")]
        self.assertEqual(printed(*calls, corrected(1)), SMALL_PRINTED.replace("two", "mended"))
