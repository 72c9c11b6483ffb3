"""Call 12: the changes from a book to another one, their order, and that they lead there."""

import itertools
import random

from frozeneditions.rows import those_that_stay
from tests.helper import (Case, changes, dropentry, dropsense, entry, erratum, freeze, history, last, moveentry,
                          movesense, point, print_book, run, say, sense, told_changes)

SMALL = [entry(0, "ant"), entry(1, "bee"), sense(1, 0, "one"), sense(1, 1, "two"), sense(2, 0, "three")]


class Told(Case):
    def assert_changes(self, before, after, wanted):
        """The changes from the book behind before to the one behind after, as told."""
        answer = last(*before, freeze(), *after, changes(1, 0))
        self.assertEqual(told_changes(answer), wanted)

    def assert_changes_back(self, before, after, wanted):
        answer = last(*before, freeze(), *after, changes(0, 1))
        self.assertEqual(told_changes(answer), wanted)


class EachKindTest(Told):
    def test_books_that_are_the_same(self):
        self.assertEqual(last(changes(0, 0)), [0, 0])
        asked = [changes(0, 0), changes(1, 2), changes(2, 2), changes(0, 1)]
        self.assertEqual(run(*SMALL, freeze(), freeze(), *asked)[-4:], [[0, 0]] * 4)
        self.assert_changes(SMALL, [moveentry(2, 0), moveentry(1, 0), say(1, "x"), say(1, "one")], [])
        self.assert_changes(SMALL, [freeze(), erratum(1, 1, "mended")], [])

    def test_all_numbers_of_an_answer(self):
        calls = [entry(0, "ab"), sense(1, 0, "xyz"), freeze(), entry(1, "cd"), say(1, ""), point(1, 1)]
        told = last(*calls, changes(1, 0))
        self.assertEqual(told, [0, 3, 3, 2, 1, 0, 2, 99, 100, 7, 1, 0, 0, 0, 8, 1, 1, 0, 0])

    def test_entry_dropped(self):
        self.assert_changes(SMALL, [dropentry(1)], [(1, 1, 0, 0, "")])
        self.assert_changes(SMALL, [dropentry(2), dropentry(1)], [(1, 1, 0, 0, ""), (1, 2, 0, 0, "")])
        swapped = SMALL + [moveentry(2, 0)]
        self.assert_changes(swapped, [dropentry(1), dropentry(2)], [(1, 2, 0, 0, ""), (1, 1, 0, 0, "")])

    def test_sense_dropped(self):
        self.assert_changes(SMALL, [dropsense(3), dropsense(1)], [(2, 1, 0, 0, ""), (2, 3, 0, 0, "")])

    def test_entry_new(self):
        self.assert_changes(SMALL, [entry(0, "cow"), entry(1, "dog"), entry(2, "elk")],
                            [(3, 3, 0, 0, "cow"), (3, 4, 1, 0, "dog"), (3, 5, 2, 0, "elk")])

    def test_entry_new_with_its_senses(self):
        self.assert_changes(SMALL, [entry(2, "cow"), sense(3, 0, "four"), sense(3, 4, "")],
                            [(3, 3, 2, 0, "cow"), (5, 4, 3, 0, "four"), (5, 5, 3, 4, "")])

    def test_entry_moved(self):
        three = SMALL + [entry(2, "cow")]
        self.assert_changes(three, [moveentry(3, 0)], [(4, 3, 0, 0, "")])
        self.assert_changes(three, [moveentry(1, 3)], [(4, 1, 3, 0, "")])

    def test_sense_new(self):
        self.assert_changes(SMALL, [sense(1, 1, "four"), sense(2, 0, "five")],
                            [(5, 4, 1, 1, "four"), (5, 5, 2, 0, "five")])

    def test_sense_moved(self):
        self.assert_changes(SMALL, [movesense(1, 2, 3)], [(6, 1, 2, 3, "")])
        self.assert_changes(SMALL, [movesense(1, 2, 0)], [(6, 1, 2, 0, "")])
        three = SMALL + [sense(1, 2, "four")]
        self.assert_changes(three, [movesense(4, 1, 0)], [(6, 4, 1, 0, "")])

    def test_said(self):
        self.assert_changes(SMALL, [say(3, "x"), say(1, "")], [(7, 1, 0, 0, ""), (7, 3, 0, 0, "x")])

    def test_pointed(self):
        self.assert_changes(SMALL, [point(3, 1), point(1, 1)], [(8, 1, 1, 0, ""), (8, 3, 1, 0, "")])
        self.assert_changes(SMALL + [point(1, 2)], [point(1, 0)], [(8, 1, 0, 0, "")])

    def test_all_kinds_in_their_order(self):
        before = SMALL + [entry(2, "cow"), entry(3, "dog"), sense(1, 2, "four"), sense(4, 0, "five")]
        after = [point(3, 1), say(4, "said"), movesense(2, 4, 5), sense(2, 3, "six"), dropsense(1), moveentry(4, 0),
                 entry(4, "elk"), dropentry(3)]
        self.assert_changes(before, after, [
            (1, 3, 0, 0, ""), (4, 4, 0, 0, ""), (3, 5, 4, 0, "elk"), (2, 1, 0, 0, ""), (6, 2, 4, 5, ""),
            (5, 6, 2, 3, "six"), (7, 4, 0, 0, "said"), (8, 3, 1, 0, "")])

    def test_backward(self):
        self.assert_changes_back(SMALL, [dropentry(1), entry(2, "cow"), say(3, "x")], [
            (1, 3, 0, 0, ""), (3, 1, 0, 0, "ant"), (5, 1, 1, 0, "one"), (5, 2, 1, 1, "two"), (7, 3, 0, 0, "three")])

    def test_between_two_editions(self):
        told = run(*SMALL, freeze(), say(1, "x"), freeze(), say(1, "y"), changes(1, 2), changes(2, 1))[-2:]
        self.assertEqual([told_changes(answer) for answer in told], [[(7, 1, 0, 0, "x")], [(7, 1, 0, 0, "one")]])

    def test_from_and_to_an_empty_book(self):
        self.assert_changes([], [entry(0, "ant"), sense(1, 0, "one")], [(3, 1, 0, 0, "ant"), (5, 1, 1, 0, "one")])
        self.assert_changes_back([], [entry(0, "ant"), sense(1, 0, "one")], [(1, 1, 0, 0, "")])


class EdgeTest(Told):
    def test_a_sense_that_went_with_its_entry_is_new_in_another_one(self):
        self.assert_changes(SMALL + [point(1, 2)], [movesense(1, 2, 3), dropentry(1)],
                            [(1, 1, 0, 0, ""), (5, 1, 2, 3, "one"), (8, 1, 2, 0, "")])

    def test_its_other_text_comes_with_it(self):
        self.assert_changes(SMALL, [movesense(1, 2, 0), say(1, "said"), dropentry(1)],
                            [(1, 1, 0, 0, ""), (5, 1, 2, 0, "said")])

    def test_a_sense_moved_into_an_entry_that_is_new(self):
        self.assert_changes(SMALL, [entry(0, "cow"), movesense(3, 3, 0)], [(3, 3, 0, 0, "cow"), (6, 3, 3, 0, "")])

    def test_no_sense_of_a_dropped_entry_is_dropped_by_itself(self):
        self.assert_changes(SMALL, [dropsense(1), dropentry(1), dropsense(3)], [(1, 1, 0, 0, ""), (2, 3, 0, 0, "")])

    def test_senses_that_change_places_between_entries(self):
        self.assert_changes(SMALL, [movesense(1, 2, 0), movesense(3, 1, 0)], [(6, 3, 1, 0, ""), (6, 1, 2, 0, "")])

    def test_a_pointer_that_died_is_no_change(self):
        self.assert_changes(SMALL + [point(1, 3)], [dropsense(3)], [(2, 3, 0, 0, "")])

    def test_a_new_sense_with_a_dead_pointer_is_pointed(self):
        self.assert_changes(SMALL, [sense(1, 0, "x"), sense(1, 0, "y"), point(4, 5), dropsense(5)],
                            [(5, 4, 1, 0, "x"), (8, 4, 5, 0, "")])

    def test_a_new_sense_that_points_to_none_is_not_pointed(self):
        self.assert_changes_back(SMALL, [point(1, 2), dropsense(1)], [(5, 1, 1, 0, "one")])

    def test_one_that_died_and_one_that_never_was_differ(self):
        before = SMALL + [point(1, 2)]
        self.assert_changes(before, [point(1, 3), dropsense(2), dropsense(3)],
                            [(2, 2, 0, 0, ""), (2, 3, 0, 0, ""), (8, 1, 3, 0, "")])

    def test_said_and_pointed_go_by_the_seconds_print(self):
        self.assert_changes(SMALL, [moveentry(2, 0), movesense(2, 1, 0)] + [say(n, "x") for n in (1, 2, 3)]
                            + [point(n, 1) for n in (1, 2, 3)],
                            [(4, 2, 0, 0, ""), (6, 2, 1, 0, ""), (7, 3, 0, 0, "x"), (7, 2, 0, 0, "x"),
                             (7, 1, 0, 0, "x"), (8, 3, 1, 0, ""), (8, 2, 1, 0, ""), (8, 1, 1, 0, "")])


def earliest_longest(old, new):
    """Of all rows of places in the old row that rise in both, the first of the longest ones."""
    for length in range(len(old), 0, -1):
        for places in itertools.combinations(range(len(old)), length):
            names = [old[place] for place in places]
            if all(name in new for name in names):
                there = [new.index(name) for name in names]
                if there == sorted(there):
                    return names
    return []


class StayTest(Told):
    def test_of_two_that_changed_places_the_first_of_the_old_row_stays(self):
        self.assert_changes(SMALL, [moveentry(2, 0)], [(4, 2, 0, 0, "")])
        self.assert_changes(SMALL, [movesense(2, 1, 0)], [(6, 2, 1, 0, "")])

    def test_a_choice_that_goes_on_as_early_as_may_be(self):
        self.assertEqual(those_that_stay([1, 2, 3, 4], [2, 1, 4, 3]), [1, 3])
        self.assertEqual(those_that_stay([1, 2, 3, 4], [3, 4, 1, 2]), [1, 2])
        self.assertEqual(those_that_stay([3, 1, 2], [1, 2, 3]), [1, 2])
        self.assertEqual(those_that_stay([4, 1, 5, 2], [1, 2, 4, 5]), [4, 5])
        self.assertEqual(those_that_stay([2, 1, 4, 3, 6, 5], [1, 2, 3, 4, 5, 6]), [2, 4, 6])

    def test_rows_without_a_name_in_both(self):
        self.assertEqual(those_that_stay([], []), [])
        self.assertEqual(those_that_stay([1], []), [])
        self.assertEqual(those_that_stay([], [1]), [])
        self.assertEqual(those_that_stay([1, 2], [3, 4]), [])

    def test_every_order_of_few_names(self):
        for count in range(1, 7):
            old = list(range(1, count + 1))
            for new in itertools.permutations(old):
                self.assertEqual(those_that_stay(old, list(new)), earliest_longest(old, list(new)))

    def test_rows_with_names_of_their_own(self):
        source = random.Random(1)
        for _ in range(300):
            old = source.sample(range(1, 12), source.randint(0, 8))
            new = source.sample(range(1, 12), source.randint(0, 8))
            self.assertEqual(those_that_stay(old, new), earliest_longest(old, new))

    def test_no_fewer_moves_of_entries_would_do(self):
        start = [entry(name, "w") for name in range(5)]
        for wanted in itertools.permutations(range(1, 6)):
            moves = [moveentry(name, 0) for name in reversed(wanted)]
            told = told_changes(last(*start, freeze(), *moves, changes(1, 0)))
            self.assertEqual([change[0] for change in told], [4] * (5 - len(earliest_longest([1, 2, 3, 4, 5], wanted))))


class RandomTest(Case):
    """Rows of acts, the same in every run, beside a book that is kept by hand."""

    def one_round(self, seed):
        calls, models = history(seed)
        pairs = list(itertools.product(range(5), repeat=2))
        told = run(*calls, *[print_book(book) for book in range(5)], *[changes(*pair) for pair in pairs])[len(calls):]
        for book in range(5):
            self.assertEqual(bytes(told[book][1:]).decode(), models[book].printed())
        for (first, second), answer in zip(pairs, told[5:]):
            patched = models[first].copy()
            for change in told_changes(answer):
                patched.apply(change)
            self.assertEqual(patched.entries, models[second].entries)

    def test_the_changes_applied_to_the_first_are_the_second(self):
        for seed in range(150):
            with self.subTest(seed=seed):
                self.one_round(seed)
