"""-3 to -8: each refusal told with a call, and which goes first where several are due."""

from tests.helper import (FULL_LOG, Case, blame, carry, changes, check, corrected, dead, dropentry, dropsense, entry,
                          errata, erratum, freeze, last, line, moveentry, movesense, name_at, number, patch, point,
                          pointers, print_book, run, say, sense, size, state)

# Entries 1 and 2, senses 1 and 2 in entry 1 and 3 in entry 2; entry 3 and sense 4 are gone.
SMALL = [entry(0), entry(1), entry(2), sense(1, 0, "one"), sense(1, 1, "two"), sense(2, 0, "three"),
         sense(3, 0, "four"), freeze(), dropentry(3)]

# The log is full: entry 1 with senses 1 and 2; nothing else was ever made.
FULL = FULL_LOG + [freeze()]


class EachRefusalTest(Case):
    def test_entry(self):
        self.assert_refused(-7, SMALL, entry(3))
        self.assert_refused(-7, SMALL, entry(4))
        self.assert_refused(-7, [], entry(1))
        self.assert_refused(-4, FULL, entry(0))

    def test_sense(self):
        self.assert_refused(-5, SMALL, sense(3, 0))
        self.assert_refused(-5, SMALL, sense(4, 0))
        self.assert_refused(-7, SMALL, sense(1, 3))
        self.assert_refused(-7, SMALL, sense(1, 4))
        self.assert_refused(-7, SMALL, sense(1, 5))
        self.assert_refused(-4, FULL, sense(1, 0))

    def test_say(self):
        self.assert_refused(-6, SMALL, say(4))
        self.assert_refused(-6, SMALL, say(5))
        self.assert_refused(-4, FULL, say(1, "other"))

    def test_point(self):
        for call in (point(4, 1), point(5, 1), point(1, 4), point(1, 5), point(4, 0), point(4, 4), point(4, 5)):
            self.assert_refused(-6, SMALL, call)
        self.assert_refused(-4, FULL, point(1, 2))
        self.assert_refused(-4, FULL, point(1, 0))

    def test_movesense(self):
        self.assert_refused(-6, SMALL, movesense(4, 1, 0))
        self.assert_refused(-6, SMALL, movesense(5, 1, 0))
        self.assert_refused(-5, SMALL, movesense(1, 3, 0))
        self.assert_refused(-5, SMALL, movesense(1, 4, 0))
        self.assert_refused(-7, SMALL, movesense(1, 2, 2))
        self.assert_refused(-7, SMALL, movesense(1, 1, 4))
        self.assert_refused(-7, SMALL, movesense(1, 1, 1))
        self.assert_refused(-7, SMALL, movesense(1, 2, 1))
        self.assert_refused(-4, FULL, movesense(1, 1, 2))

    def test_moveentry(self):
        self.assert_refused(-5, SMALL, moveentry(3, 0))
        self.assert_refused(-5, SMALL, moveentry(4, 0))
        self.assert_refused(-7, SMALL, moveentry(1, 3))
        self.assert_refused(-7, SMALL, moveentry(1, 4))
        self.assert_refused(-7, SMALL, moveentry(1, 1))
        self.assert_refused(-4, FULL, moveentry(1, 0))

    def test_dropsense(self):
        self.assert_refused(-6, SMALL, dropsense(4))
        self.assert_refused(-6, SMALL, dropsense(5))
        self.assert_refused(-4, FULL, dropsense(1))

    def test_dropentry(self):
        self.assert_refused(-5, SMALL, dropentry(3))
        self.assert_refused(-5, SMALL, dropentry(4))
        self.assert_refused(-4, FULL, dropentry(1))

    def test_erratum(self):
        self.assert_refused(-8, SMALL, erratum(2, 1))
        self.assert_refused(-6, SMALL, erratum(1, 5))
        # A sense of the book now that came behind the edition isn't in it.
        self.assert_refused(-6, SMALL + [sense(1, 0)], erratum(1, 5))
        self.assert_refused(-4, FULL, erratum(1, 1, "mended"))

    def test_print_corrected_changes(self):
        for call in (print_book(2), corrected(2), changes(2, 0), changes(0, 2), changes(2, 2), changes(1, 10)):
            self.assert_refused(-8, SMALL, call)
        for call in (print_book(1), corrected(1), changes(1, 1)):
            self.assert_refused(-8, [], call)

    def test_each_call_that_is_told_a_book(self):
        for call in (lambda n: patch(n, []), lambda n: number(n, 1), lambda n: name_at(n, 1, 1),
                     lambda n: carry(n, 1, 1, 0), lambda n: carry(0, 1, 1, n), lambda n: carry(n, 1, 1, n), pointers,
                     dead, lambda n: blame(n, 1), errata, size):
            for book in (2, 10):
                self.assert_refused(-8, SMALL, call(book))
                self.assert_refused(-8, [], call(book))
            self.assert_refused(-8, [], call(1))
            self.assert_accepted(SMALL, call(1))

    def test_patch(self):
        self.assert_refused(-3, SMALL, patch(0, [0]))
        self.assert_refused(-3, SMALL, patch(1, [0]))

    def test_carry(self):
        # Entry 1 has two senses, entry 2 one; entry 3 has one in the edition and is gone now.
        for call in (carry(0, 1, 3, 1), carry(0, 2, 2, 1), carry(0, 3, 1, 1), carry(1, 3, 2, 0), carry(1, 4, 1, 0),
                     carry(0, 20, 50, 0)):
            self.assert_refused(-6, SMALL, call)
        self.assert_accepted(SMALL, carry(1, 3, 1, 0))

    def test_blame(self):
        for call in (blame(0, 4), blame(0, 5), blame(1, 5), blame(0, 50)):
            self.assert_refused(-6, SMALL, call)
        self.assert_accepted(SMALL, blame(1, 4))
        # A sense of the book now that came behind the edition isn't in it.
        self.assert_refused(-6, SMALL + [sense(1, 0)], blame(1, 5))

    def test_line(self):
        self.assert_refused(-5, [], line(1))
        self.assert_refused(-5, [freeze()], line(1))
        self.assert_refused(-5, SMALL, line(9))
        self.assert_refused(-5, SMALL, line(200))
        self.assert_accepted(SMALL, line(8))

    def test_freeze(self):
        self.assert_refused(-4, SMALL + [freeze()] * 9, freeze())


class OrderTest(Case):
    def test_entry(self):
        self.assert_refused(-7, FULL, entry(2))
        twenty = [entry(0)] * 20
        self.assert_refused(-7, twenty + [dropentry(3)], entry(3))

    def test_sense(self):
        self.assert_refused(-5, SMALL, sense(3, 7))
        self.assert_refused(-5, FULL, sense(2, 7))
        self.assert_refused(-7, FULL, sense(1, 3))
        fifty = [entry(0)] + [sense(1, 0)] * 50
        self.assert_refused(-5, fifty, sense(2, 0))
        self.assert_refused(-7, fifty + [dropsense(50)], sense(1, 50))

    def test_say_and_point(self):
        for call in (say(3), point(3, 1), point(1, 3), point(3, 0)):
            self.assert_refused(-6, FULL, call)

    def test_movesense(self):
        self.assert_refused(-6, SMALL, movesense(4, 3, 4))
        self.assert_refused(-6, SMALL, movesense(4, 1, 4))
        self.assert_refused(-6, SMALL, movesense(5, 3, 0))
        self.assert_refused(-5, SMALL, movesense(1, 3, 1))
        self.assert_refused(-5, SMALL, movesense(1, 3, 4))
        self.assert_refused(-6, FULL, movesense(3, 1, 0))
        self.assert_refused(-5, FULL, movesense(1, 2, 0))
        self.assert_refused(-7, FULL, movesense(1, 1, 1))
        self.assert_refused(-7, FULL, movesense(1, 1, 3))

    def test_moveentry(self):
        self.assert_refused(-5, SMALL, moveentry(3, 3))
        self.assert_refused(-5, SMALL, moveentry(4, 5))
        self.assert_refused(-5, FULL, moveentry(2, 0))
        self.assert_refused(-7, FULL, moveentry(1, 1))
        self.assert_refused(-7, FULL, moveentry(1, 2))

    def test_drops(self):
        self.assert_refused(-6, FULL, dropsense(3))
        self.assert_refused(-5, FULL, dropentry(2))

    def test_erratum(self):
        self.assert_refused(-8, SMALL, erratum(2, 5))
        self.assert_refused(-8, FULL, erratum(2, 3))
        self.assert_refused(-8, FULL, erratum(2, 1))
        self.assert_refused(-6, FULL, erratum(1, 3))

    def test_patch(self):
        self.assert_refused(-8, SMALL, patch(2, [0]))
        self.assert_refused(-8, SMALL, patch(2, [1, 7, 0, 0, 0, 9]))

    def test_carry(self):
        self.assert_refused(-8, SMALL, carry(2, 9, 9, 0))
        self.assert_refused(-8, SMALL, carry(0, 9, 9, 2))

    def test_blame(self):
        self.assert_refused(-8, SMALL, blame(2, 5))


class LimitTest(Case):
    def test_20_entries_are_the_most(self):
        told = run(*[entry(0)] * 21)
        self.assertEqual(told[19:], [[0, 20, 20], [-4]])

    def test_dropped_entries_count_as_made(self):
        self.assert_refused(-4, [entry(0)] * 20 + [dropentry(7), dropentry(8)], entry(0))

    def test_all_else_goes_on_with_20_entries(self):
        twenty = [entry(0)] * 20
        self.assertEqual(last(*twenty, sense(20, 0)), [0, 21, 1])
        self.assertEqual(last(*twenty, moveentry(20, 1)), [0, 21])

    def test_50_senses_are_the_most(self):
        told = run(entry(0), *[sense(1, 0)] * 51)
        self.assertEqual(told[50:], [[0, 51, 50], [-4]])

    def test_dropped_senses_count_as_made(self):
        fifty = [entry(0)] + [sense(1, 0)] * 50
        self.assert_refused(-4, fifty + [dropsense(7), dropsense(8)], sense(1, 0))
        self.assert_refused(-4, fifty + [dropentry(1), entry(0)], sense(2, 0))

    def test_all_else_goes_on_with_50_senses(self):
        fifty = [entry(0)] + [sense(1, 0)] * 50
        self.assertEqual(last(*fifty, entry(0)), [0, 52, 2])
        self.assertEqual(last(*fifty, point(50, 1)), [0, 52])

    def test_200_lines_are_the_most(self):
        told = run(*FULL_LOG, say(1, "x"), print_book(0))
        self.assertEqual(told[199:], [[0, 200], [-4], [0] + list(b"1 a\n1.1 - x\n1.2 - \n")])

    def test_each_act_may_be_the_200th_line_and_none_the_201st(self):
        most = FULL_LOG[:199]
        for call in (entry(0), sense(1, 0), say(1), point(1, 2), movesense(1, 1, 2), moveentry(1, 0), dropsense(1),
                     dropentry(1), erratum(1, 1)):
            with self.subTest(call=call):
                self.assertEqual(last(*most, freeze(), call)[:2], [0, 200])
                self.assert_refused(-4, FULL_LOG + [freeze()], call)

    def test_refused_acts_are_no_lines(self):
        told = run(*FULL_LOG[:199], *[say(3)] * 20, say(1, "y"), say(1, "z"))
        self.assertEqual(told[-2:], [[0, 200], [-4]])

    def test_what_is_no_act_is_no_line(self):
        told = run(entry(0), freeze(), print_book(0), corrected(1), changes(0, 1), patch(0, [3, 7, 0, 0, 1, 97]),
                   number(0, 1), name_at(0, 1, 1), carry(0, 1, 1, 1), pointers(0), dead(0), blame(0, 1), check([]),
                   errata(1), line(1), size(0), state(), entry(0))
        self.assertEqual(told[-1], [0, 2, 2])
        self.assertEqual(last(*FULL_LOG, freeze()), [0, 1, 200])

    def test_10_editions_are_the_most(self):
        told = run(entry(0), *[freeze()] * 11, print_book(10))
        self.assertEqual(told[10:], [[0, 10, 1], [-4], [0] + list(b"1 a\n")])
