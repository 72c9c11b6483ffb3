"""frozeneditions.book.answers: the form of what is handed in and given back, and that nothing is kept."""

from frozeneditions.book import answers
from tests.helper import (Case, as_numbers, blame, carry, changes, check, corrected, dead, dropentry, dropsense, entry,
                          errata, erratum, freeze, line, moveentry, movesense, name_at, number, patch, point, pointers,
                          print_book, say, sense, size, state)

PATCH = as_numbers((3, 9, 0, 0, "new"), (6, 1, 9, 0, ""), (7, 1, 0, 0, "other"), (8, 1, 1, 0, ""), (1, 2, 0, 0, ""))
ALL = [entry(0, "ant"), entry(1, "bee"), sense(1, 0, "one"), sense(2, 0, "two"), say(1, "said"), point(1, 2), freeze(),
       movesense(1, 2, 2), moveentry(2, 0), erratum(1, 2, "mended"), print_book(0), print_book(1), corrected(1),
       changes(1, 0), changes(0, 1), patch(0, PATCH), patch(1, PATCH + PATCH), patch(1, [0]), number(1, 2),
       name_at(1, 1, 1), carry(1, 1, 1, 0), pointers(1), dropsense(2), dead(0), blame(0, 1), check("1 ant\n"),
       check("1 ant"), errata(1), line(1), size(1), state(), dropentry(2), say(1), print_book(0)]


class Kept(list):
    """A list that can't be changed."""

    def refuse(self, *given):
        raise AssertionError("changed")

    append = clear = extend = insert = pop = remove = reverse = sort = refuse
    __setitem__ = __delitem__ = __iadd__ = __imul__ = refuse


def flat(calls):
    return [number for call in calls for number in call]


class AnswersTest(Case):
    def test_each_answer_stands_behind_its_count(self):
        given = [0, 0, 1, 97, 1, 1, 0, 0, 2, 1, 1, 120, 3, 1, 1, 9, 10, 0, 10, 2, 4, 2, 1, 0, 5, 1, 0, 8, 1, 1, 1, 121,
                 11, 1, 12, 1, 0, 6, 1, 12, 1, 0, 7, 1, 10, 0]
        wanted = [3, 0, 1, 1, 3, 0, 2, 1, 2, 0, 3, 2, 0, 4, 3, 0, 1, 4,
                  15, 0, 49, 32, 97, 10, 49, 46, 49, 32, 49, 46, 49, 32, 120, 10,
                  1, -8, 1, -6, 2, 0, 5, 2, 0, 6,
                  15, 0, 49, 32, 97, 10, 49, 46, 49, 32, 49, 46, 49, 32, 121, 10,
                  2, 0, 0, 2, 0, 7, 7, 0, 1, 2, 1, 0, 0, 0, 2, 0, 8, 1, 0]
        self.assertEqual(answers(given), wanted)

    def test_each_answer_of_the_later_calls_stands_behind_its_count(self):
        given = [0, 0, 1, 97, 1, 1, 0, 1, 120, 3, 1, 1, 9, 8, 1, 1, 2, 121, 122,
                 13, 0, 0, 13, 0, 5, 2, 1, 0, 0, 0, 13, 1, 5, 2, 2, 0, 0, 0, 13, 1, 1, 2, 14, 0, 1, 14, 0, 2,
                 15, 0, 1, 1, 15, 0, 2, 1, 16, 0, 1, 1, 1, 16, 0, 2, 1, 1, 17, 0, 18, 0, 19, 0, 1, 20, 0,
                 20, 4, 49, 32, 97, 10, 20, 1, 49, 21, 1, 22, 5, 22, 4, 23, 1, 24]
        wanted = [3, 0, 1, 1, 3, 0, 2, 1, 2, 0, 3, 3, 0, 1, 3, 2, 0, 4,
                  16, 0, 0, 49, 32, 97, 10, 49, 46, 49, 32, 49, 46, 49, 32, 120, 10, 6, 0, 0, 49, 32, 97, 10,
                  3, 0, 1, 1, 1, -3, 3, 0, 1, 1, 3, 0, 0, 0,
                  2, 0, 1, 2, 0, 0, 3, 0, 1, 1, 1, -6, 6, 0, 1, 1, 1, 1, 1, 2, 0, 0, 6, 0, 2, 0, 3, 0, 2, 4, 0, 0, 0, 0,
                  4, 0, 0, 1, 0, 3, 0, 1, 1, 7, 0, 1, 1, 1, 2, 121, 122, 1, -5, 8, 0, 8, 1, 1, 0, 2, 121, 122,
                  4, 0, 3, 1, 1, 6, 0, 4, 1, 1, 1, 3]
        self.assertEqual(answers(given), wanted)

    def test_it_is_a_list_of_whole_numbers(self):
        told = answers(flat(ALL))
        self.assertIs(type(told), list)
        self.assertEqual({type(number) for number in told}, {int})

    def test_what_is_handed_in_is_as_it_was(self):
        given = flat(ALL)
        kept = list(given)
        told = answers(given)
        self.assertEqual(given, kept)
        self.assertIsNot(told, given)

    def test_what_is_handed_in_is_not_changed_for_a_while_either(self):
        self.assertEqual(answers(Kept(flat(ALL))), answers(flat(ALL)))

    def test_what_is_given_back_may_be_changed(self):
        given = flat(ALL)
        told = answers(given)
        kept = list(told)
        told.clear()
        self.assertEqual(answers(given), kept)

    def test_a_second_time_is_as_the_first(self):
        wanted = answers(flat(ALL))
        answers(flat([entry(0)] * 20 + [freeze()] * 10))
        self.assertEqual(answers(flat(ALL)), wanted)
        self.assertEqual(answers(flat([print_book(0), print_book(1), line(1), state(), entry(0)])),
                         [1, 0, 1, -8, 1, -5, 5, 0, 0, 0, 0, 0, 3, 0, 1, 1])

    def test_a_refused_call_with_a_long_row_is_stepped_over_whole(self):
        for row in ([97] * 3500, [9] * 3500, [-1000000000000000000] * 3500, [1000000000000000000] * 13):
            for call in (entry(0, row), sense(1, 0, row * 3 if len(row) == 13 else row), say(1, [1] * 3500),
                         erratum(1, 1, row * 3 if len(row) == 13 else row)):
                self.assertEqual(answers(call + entry(0)), [1, -1, 3, 0, 1, 1])
            if len(row) == 3500:
                self.assertEqual(answers(patch(0, row) + check(row) + entry(0)), [1, -1, 1, -1, 3, 0, 1, 1])

    def test_long_rows(self):
        # What is as long as its input is gone through by loops.
        made = as_numbers((3, 1, 0, 0, "a"), (1, 1, 0, 0, "")) * 272
        for call, wanted in ((patch(0, made), [2, 0, 0]), (patch(0, [8, 1, 0, 0, 0] * 600), [3, 0, 1, 1]),
                             (patch(0, [9] * 3000), [1, -3]), (check([10] * 3000), [3, 0, 1, 1]),
                             (check([97] * 3000), [3, 0, 1, 1])):
            self.assertEqual(answers(call * 5), wanted * 5)

    def test_17000_numbers(self):
        given = flat([entry(0, [97] * 3500)] * 4 + [entry(0, "a" * 12)] * 100)
        self.assertEqual(answers(given)[:8], [1, -1] * 4)

    def test_250_calls(self):
        self.assertEqual(answers(flat([print_book(0)] * 250)), [1, 0] * 250)
