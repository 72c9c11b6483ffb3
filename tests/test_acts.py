"""Calls 0 to 8 as they are meant: what they answer and what the book is then."""

from tests.helper import (Case, dropentry, dropsense, entry, erratum, freeze, last, moveentry, movesense, point,
                          print_book, printed, run, say, sense)

THREE = [entry(0, "ant"), entry(1, "bee"), entry(2, "cow")]
SENSES = [entry(0, "ant"), entry(1, "bee"), sense(1, 0, "one"), sense(1, 1, "two"), sense(1, 2, "three"),
          sense(2, 0, "four")]


class EntryTest(Case):
    def test_answers_the_logs_length_and_the_name(self):
        self.assertEqual(run(*THREE), [[0, 1, 1], [0, 2, 2], [0, 3, 3]])

    def test_behind_0_is_the_beginning(self):
        self.assertEqual(printed(*THREE, entry(0, "dog"), print_book(0)), "1 dog\n2 ant\n3 bee\n4 cow\n")

    def test_behind_one_in_the_middle(self):
        self.assertEqual(printed(*THREE, entry(1, "dog"), print_book(0)), "1 ant\n2 dog\n3 bee\n4 cow\n")

    def test_behind_the_last(self):
        self.assertEqual(printed(*THREE, entry(3, "dog"), print_book(0)), "1 ant\n2 bee\n3 cow\n4 dog\n")

    def test_two_entries_may_have_one_word(self):
        self.assertEqual(printed(entry(0, "ant"), entry(0, "ant"), print_book(0)), "1 ant\n2 ant\n")

    def test_a_dropped_ones_name_is_not_given_again(self):
        self.assertEqual(last(*THREE, dropentry(3), entry(0, "dog")), [0, 5, 4])

    def test_a_refused_one_takes_no_name(self):
        self.assertEqual(run(entry(1), entry(0)), [[-7], [0, 1, 1]])


class SenseTest(Case):
    def test_answers_the_logs_length_and_the_name(self):
        self.assertEqual(run(*SENSES)[2:], [[0, 3, 1], [0, 4, 2], [0, 5, 3], [0, 6, 4]])

    def test_points_to_none(self):
        self.assertEqual(printed(entry(0), sense(1, 0, "x"), print_book(0)), "1 a\n1.1 - x\n")

    def test_behind_0_is_the_beginning(self):
        self.assertEqual(printed(*SENSES, sense(1, 0, "new"), print_book(0)),
                         "1 ant\n1.1 - new\n1.2 - one\n1.3 - two\n1.4 - three\n2 bee\n2.1 - four\n")

    def test_behind_one_in_the_middle(self):
        self.assertEqual(printed(*SENSES, sense(1, 2, "new"), print_book(0)),
                         "1 ant\n1.1 - one\n1.2 - two\n1.3 - new\n1.4 - three\n2 bee\n2.1 - four\n")

    def test_behind_the_last(self):
        self.assertEqual(printed(*SENSES, sense(2, 4, "new"), print_book(0)),
                         "1 ant\n1.1 - one\n1.2 - two\n1.3 - three\n2 bee\n2.1 - four\n2.2 - new\n")

    def test_a_dropped_ones_name_is_not_given_again(self):
        self.assertEqual(last(*SENSES, dropsense(4), sense(2, 0)), [0, 8, 5])

    def test_the_name_of_one_that_went_with_its_entry_is_not_given_again(self):
        self.assertEqual(last(*SENSES, dropentry(2), sense(1, 0)), [0, 8, 5])

    def test_a_refused_one_takes_no_name(self):
        self.assertEqual(run(entry(0), sense(1, 1), sense(1, 0)), [[0, 1, 1], [-7], [0, 2, 1]])


class SayTest(Case):
    def test_answers_the_logs_length(self):
        self.assertEqual(last(*SENSES, say(2, "other")), [0, 7])

    def test_its_text_is_that(self):
        self.assertEqual(printed(*SENSES, point(2, 4), say(2, "other"), print_book(0)),
                         "1 ant\n1.1 - one\n1.2 2.1 other\n1.3 - three\n2 bee\n2.1 - four\n")

    def test_the_same_text_is_a_line_of_the_log_too(self):
        self.assertEqual(last(*SENSES, say(2, "two"), say(2, "two")), [0, 8])


class PointTest(Case):
    def test_answers_the_logs_length(self):
        self.assertEqual(last(*SENSES, point(1, 4)), [0, 7])

    def test_it_points_to_that(self):
        self.assertEqual(printed(*SENSES, point(1, 4), print_book(0)),
                         "1 ant\n1.1 2.1 one\n1.2 - two\n1.3 - three\n2 bee\n2.1 - four\n")

    def test_to_itself(self):
        self.assertEqual(printed(entry(0), sense(1, 0), point(1, 1), print_book(0)), "1 a\n1.1 1.1 \n")

    def test_to_none_again(self):
        self.assertEqual(printed(entry(0), sense(1, 0), point(1, 1), point(1, 0), print_book(0)), "1 a\n1.1 - \n")


class MovesenseTest(Case):
    def test_answers_the_logs_length(self):
        self.assertEqual(last(*SENSES, movesense(1, 2, 4)), [0, 7])

    def test_into_another_entry(self):
        self.assertEqual(printed(*SENSES, point(1, 2), movesense(1, 2, 4), print_book(0)),
                         "1 ant\n1.1 - two\n1.2 - three\n2 bee\n2.1 - four\n2.2 1.1 one\n")

    def test_to_another_entrys_beginning(self):
        self.assertEqual(printed(*SENSES, movesense(3, 2, 0), print_book(0)),
                         "1 ant\n1.1 - one\n1.2 - two\n2 bee\n2.1 - three\n2.2 - four\n")

    def test_forward_within_its_entry(self):
        self.assertEqual(printed(*SENSES, movesense(1, 1, 2), print_book(0)),
                         "1 ant\n1.1 - two\n1.2 - one\n1.3 - three\n2 bee\n2.1 - four\n")

    def test_backward_within_its_entry(self):
        self.assertEqual(printed(*SENSES, movesense(3, 1, 1), print_book(0)),
                         "1 ant\n1.1 - one\n1.2 - three\n1.3 - two\n2 bee\n2.1 - four\n")

    def test_to_where_it_is(self):
        still = printed(*SENSES, print_book(0))
        self.assertEqual(printed(*SENSES, movesense(2, 1, 1), movesense(1, 1, 0), print_book(0)), still)

    def test_a_pointer_follows_it(self):
        self.assertEqual(printed(*SENSES, point(2, 1), movesense(1, 2, 4), print_book(0)),
                         "1 ant\n1.1 2.2 two\n1.2 - three\n2 bee\n2.1 - four\n2.2 - one\n")


class MoveentryTest(Case):
    def test_answers_the_logs_length(self):
        self.assertEqual(last(*THREE, moveentry(3, 1)), [0, 4])

    def test_backward(self):
        self.assertEqual(printed(*THREE, moveentry(3, 1), print_book(0)), "1 ant\n2 cow\n3 bee\n")

    def test_forward(self):
        self.assertEqual(printed(*THREE, moveentry(1, 3), print_book(0)), "1 bee\n2 cow\n3 ant\n")

    def test_to_the_beginning(self):
        self.assertEqual(printed(*THREE, moveentry(2, 0), print_book(0)), "1 bee\n2 ant\n3 cow\n")

    def test_to_where_it_is(self):
        self.assertEqual(printed(*THREE, moveentry(2, 1), moveentry(1, 0), print_book(0)), "1 ant\n2 bee\n3 cow\n")

    def test_its_senses_go_with_it(self):
        self.assertEqual(printed(*SENSES, point(4, 2), moveentry(2, 0), print_book(0)),
                         "1 bee\n1.1 2.2 four\n2 ant\n2.1 - one\n2.2 - two\n2.3 - three\n")


class DropTest(Case):
    def test_dropsense_answers_the_logs_length(self):
        self.assertEqual(last(*SENSES, dropsense(2)), [0, 7])

    def test_dropsense(self):
        self.assertEqual(printed(*SENSES, dropsense(2), print_book(0)),
                         "1 ant\n1.1 - one\n1.2 - three\n2 bee\n2.1 - four\n")

    def test_what_points_to_a_dropped_sense_stays_as_it_is(self):
        self.assertEqual(printed(*SENSES, point(4, 2), dropsense(2), print_book(0)),
                         "1 ant\n1.1 - one\n1.2 - three\n2 bee\n2.1 0.0 four\n")

    def test_dropentry_answers_the_logs_length(self):
        self.assertEqual(last(*SENSES, dropentry(1)), [0, 7])

    def test_dropentry_takes_its_senses_along(self):
        calls = SENSES + [point(4, 1), dropentry(1)]
        self.assertEqual(printed(*calls, print_book(0)), "1 bee\n1.1 0.0 four\n")
        for name in (1, 2, 3):
            self.assertEqual(last(*calls, say(name)), [-6])

    def test_dropentry_leaves_a_sense_that_was_moved_away(self):
        self.assertEqual(printed(*SENSES, movesense(2, 2, 0), dropentry(1), print_book(0)),
                         "1 bee\n1.1 - two\n1.2 - four\n")

    def test_the_last_entry_may_go(self):
        self.assertEqual(last(entry(0), dropentry(1), print_book(0)), [0])


class ErratumTest(Case):
    def test_answers_the_logs_length(self):
        self.assertEqual(last(*SENSES, freeze(), erratum(1, 2, "mended")), [0, 7])

    def test_of_a_sense_that_is_no_longer_there_now(self):
        self.assertEqual(last(*SENSES, freeze(), dropentry(1), erratum(1, 2, "mended")), [0, 8])
