"""The promises over the whole program, over many rows of acts."""

import itertools
import random

from tests.helper import (FULL_LOG, Case, as_numbers, blame, carry, changes, check, corrected, dead, entry, errata,
                          erratum, freeze, history, last, line, moveentry, name_at, number, patch, point, pointers,
                          print_book, run, say, sense, size, some_act, state, told_changes)


def asked_of(edition):
    """Calls whose answers are what the edition says."""
    some = as_numbers((3, 90, 0, 0, "new"), (5, 91, 90, 0, "x"), (8, 91, 1, 0, ""))
    asked = [print_book(edition), pointers(edition), dead(edition), size(edition), patch(edition, some)]
    asked += [number(edition, name) for name in range(1, 16)] + [blame(edition, name) for name in range(1, 16)]
    asked += [name_at(edition, place, inner) for place in range(1, 5) for inner in range(1, 4)]
    for earlier in range(1, edition + 1):
        asked += [changes(earlier, edition), changes(edition, earlier), carry(edition, 1, 1, earlier)]
    return asked


class EditionTest(Case):
    def test_what_an_edition_says_is_told_alike_for_ever(self):
        for seed in range(60):
            calls, _ = history(seed)
            places = [place for place, call in enumerate(calls, 1) if call == freeze()]
            source = random.Random(seed)
            beside = [erratum(source.randint(1, 4), name, "mended") for name in range(1, 13)]
            for edition, place in enumerate(places, 1):
                asked = asked_of(edition)
                at_once = run(*calls[:place], *asked)[-len(asked):]
                later = run(*calls, *beside, *asked)[-len(asked):]
                self.assertEqual(at_once, later, (seed, edition))

    def test_lines_are_told_alike_for_ever(self):
        for seed in range(30):
            calls, _ = history(seed)
            some = calls[:len(calls) // 2]
            asked = [line(place) for place in range(1, last(*some, state())[1] + 1)]
            if asked:
                self.assertEqual(run(*some, *asked)[-len(asked):], run(*calls, *asked)[-len(asked):])


class NameTest(Case):
    def test_a_name_is_never_given_again(self):
        for seed in range(100):
            source = random.Random(seed)
            acts = [some_act(source) for _ in range(240)]
            told = run(*acts, state())
            for call in (0, 1):
                given = [answer[2] for act, answer in zip(acts, told) if act[0] == call and answer[0] == 0]
                self.assertEqual(given, list(range(1, len(given) + 1)))
                self.assertEqual(told[-1][2 + call], len(given))


class ChangesTest(Case):
    PAIRS = list(itertools.product(range(5), repeat=2))

    def assert_patched(self, calls, pairs):
        """The changes told from each first book to its second one, handed to patch, print the second."""
        told = run(*calls, *[print_book(book) for book in range(5)], *[changes(*pair) for pair in pairs])[len(calls):]
        patches = [patch(first, answer[2:]) for (first, _), answer in zip(pairs, told[5:])]
        patched = run(*calls, *patches)[len(calls):]
        self.assertEqual(patched, [[0, 0] + told[second][1:] for _, second in pairs])

    def test_the_changes_told_print_the_second(self):
        for seed in range(200):
            calls, _ = history(seed)
            with self.subTest(seed=seed):
                self.assert_patched(calls, self.PAIRS[:13])
                self.assert_patched(calls, self.PAIRS[13:])

    def test_books_as_great_as_may_be(self):
        one = [entry(0, "a" * 12)] * 10 + [sense(1, 0, "x" * 30)] * 25 + [point(name, 1) for name in range(1, 26)]
        other = [[7, name] for name in range(1, 11)] + [entry(0, "b" * 12)] * 10
        other += [sense(11, 0, "y" * 30)] * 25 + [point(name, 26) for name in range(26, 51)]
        for calls in (one + [freeze()] + other, [freeze()] + one + other[10:]):
            for pair in ((1, 0), (0, 1)):
                told = run(*calls, changes(*pair), print_book(pair[1]))
                self.assertLessEqual(len(told[-2]) - 2, 3000)
                self.assertEqual(last(*calls, patch(pair[0], told[-2][2:])), [0, 0] + told[-1][1:])

    def test_each_sense_said_moved_and_pointed(self):
        calls = [entry(0, "ant"), entry(1, "bee")] + [sense(1, 0, "x")] * 50 + [freeze()]
        calls += [say(name, "z" * 30) for name in range(1, 51)] + [point(name, 50) for name in range(1, 51)]
        calls += [[4, name, 2, 0] for name in range(1, 49)]
        told = run(*calls, changes(1, 0), changes(0, 1), print_book(0), print_book(1))[-4:]
        self.assertEqual(told[0][1], 50 + 50 + 48)
        self.assertEqual(last(*calls, patch(1, told[0][2:])), [0, 0] + told[2][1:])
        self.assertEqual(last(*calls, patch(0, told[1][2:])), [0, 0] + told[3][1:])


def moved(row, one, behind):
    row = [name for name in row if name != one]
    row.insert(row.index(behind) + 1 if behind else 0, one)
    return tuple(row)


def fewest_moves(start):
    """Of each order of the names: how many moves lead there from the start, found step by step."""
    found = {start: 0}
    reached = [start]
    for row in reached:
        for one, behind in itertools.product(start, (0,) + start):
            if one != behind and moved(row, one, behind) not in found:
                found[moved(row, one, behind)] = found[row] + 1
                reached.append(moved(row, one, behind))
    return found


class MovesTest(Case):
    def test_no_fewer_moves_of_entries_would_do(self):
        start = [entry(name, "w") for name in range(5)]
        found = fewest_moves((1, 2, 3, 4, 5))
        self.assertEqual(len(found), 120)
        for wanted, count in found.items():
            moves = [moveentry(name, 0) for name in reversed(wanted)]
            told = told_changes(last(*start, freeze(), *moves, changes(1, 0)))
            self.assertEqual([change[0] for change in told], [4] * count)

    def test_drops_and_new_ones_ask_for_no_more_moves(self):
        start = [entry(name, "w") for name in range(5)]
        found = fewest_moves((1, 2, 4, 5))
        for wanted, count in found.items():
            acts = [[7, 3]] + [moveentry(name, 0) for name in reversed(wanted)] + [entry(2, "n"), entry(0, "n")]
            told = told_changes(last(*start, freeze(), *acts, changes(1, 0)))
            self.assertEqual([change[0] for change in told if change[0] == 4], [4] * count)


class ReadBackTest(Case):
    def test_whatever_is_printed_is_read_back(self):
        for seed in range(60):
            calls, models = history(seed)
            row = as_numbers((3, 90, 0, 0, "new"), (5, 91, 90, 0, "~ ~"), (8, 91, 100, 0, ""))
            prints = run(*calls, *[patch(book, row) for book in range(5)])[-5:]
            told = run(*[check(answer[2:]) for answer in prints])
            for model, answer in zip(models, told):
                senses = sum(len(home[2]) for home in model.entries)
                self.assertEqual(answer, [0, 0, len(model.entries) + 1, senses + 1])

    def test_errata_as_told_are_what_is_corrected(self):
        calls = FULL_LOG[:5] + [freeze(), erratum(1, 1, "first"), erratum(1, 2, "other"), erratum(1, 1, "last")]
        told = run(*calls, errata(1), corrected(1), print_book(1))[-3:]
        self.assertEqual(told[0], [0, 3, 1, 1, 5, *b"first", 1, 2, 5, *b"other", 1, 1, 4, *b"last"])
        self.assertEqual(told[1], [0, *b"1 a\n1.1 - last\n1.2 - other\n"])
        self.assertEqual(told[2], [0, *b"1 a\n1.1 - x\n1.2 - \n"])
