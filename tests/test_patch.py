"""Call 13: changes as numbers, what they do to a book, which can't be applied, and which numbers are none."""

import random

from tests.helper import (Case, as_numbers, changes, dropentry, dropsense, entry, freeze, history, last,
                          moveentry, movesense, patch, point, print_book, run, say, sense, state)

# Entries 1 and 2, senses 1 and 2 in entry 1 and 3 in entry 2; entry 3 and sense 4 are gone.
SMALL = [entry(0, "ant"), entry(1, "bee"), entry(2, "cow"), sense(1, 0, "one"), sense(1, 1, "two"),
         sense(2, 0, "three"), sense(3, 0, "four"), point(1, 3), freeze(), dropentry(3)]
SMALL_PRINTED = "1 ant\n1.1 2.1 one\n1.2 - two\n2 bee\n2.1 - three\n"
SAID = (7, 1, 0, 0, "said")


class Patched(Case):
    def assert_patched(self, wanted, *told, book=0):
        """The book of SMALL with these changes is printed so, and is itself as before."""
        self.assert_only_told([0, 0] + list(wanted.encode()), SMALL, patch(book, as_numbers(*told)))

    def assert_not_applied(self, place, *told, book=0):
        self.assert_only_told([0, 1, place], SMALL, patch(book, as_numbers(*told)))


class EachKindTest(Patched):
    def test_no_changes(self):
        self.assertEqual(last(patch(0, [])), [0, 0])
        self.assert_patched(SMALL_PRINTED)
        self.assert_patched(SMALL_PRINTED + "3 cow\n3.1 - four\n", book=1)

    def test_entry_dropped(self):
        self.assert_patched("1 ant\n1.1 0.0 one\n1.2 - two\n", (1, 2, 0, 0, ""))
        self.assert_patched("1 bee\n1.1 - three\n", (1, 1, 0, 0, ""))
        self.assert_patched("", (1, 1, 0, 0, ""), (1, 2, 0, 0, ""))

    def test_its_senses_go_with_it(self):
        self.assert_not_applied(2, (1, 1, 0, 0, ""), (2, 1, 0, 0, ""))

    def test_sense_dropped(self):
        self.assert_patched("1 ant\n1.1 2.1 one\n2 bee\n2.1 - three\n", (2, 2, 0, 0, ""))
        self.assert_patched("1 ant\n1.1 0.0 one\n1.2 - two\n2 bee\n", (2, 3, 0, 0, ""))

    def test_entry_new(self):
        rest = SMALL_PRINTED.replace("2.1", "3.1").replace("2 bee", "3 bee")
        self.assert_patched("1 new\n" + SMALL_PRINTED.replace("2.1", "3.1").replace("1.2", "2.2").replace("1.1", "2.1")
                            .replace("2 bee", "3 bee").replace("1 ant", "2 ant"), (3, 4, 0, 0, "new"))
        self.assert_patched(rest.replace("3 bee", "2 new\n3 bee"), (3, 4, 1, 0, "new"))
        self.assert_patched(SMALL_PRINTED + "3 new\n", (3, 4, 2, 0, "new"))

    def test_entry_moved(self):
        swapped = "1 bee\n1.1 - three\n2 ant\n2.1 1.1 one\n2.2 - two\n"
        self.assert_patched(swapped, (4, 2, 0, 0, ""))
        self.assert_patched(swapped, (4, 1, 2, 0, ""))
        self.assert_patched(SMALL_PRINTED, (4, 1, 0, 0, ""))
        self.assert_patched(SMALL_PRINTED, (4, 2, 1, 0, ""))

    def test_sense_new(self):
        self.assert_patched("1 ant\n1.1 - new\n1.2 2.1 one\n1.3 - two\n2 bee\n2.1 - three\n", (5, 5, 1, 0, "new"))
        self.assert_patched("1 ant\n1.1 2.1 one\n1.2 - new\n1.3 - two\n2 bee\n2.1 - three\n", (5, 5, 1, 1, "new"))
        self.assert_patched(SMALL_PRINTED + "2.2 - \n", (5, 5, 2, 3, ""))

    def test_sense_moved(self):
        self.assert_patched("1 ant\n1.1 - two\n2 bee\n2.1 - three\n2.2 2.1 one\n", (6, 1, 2, 3, ""))
        self.assert_patched("1 ant\n1.1 - two\n2 bee\n2.1 2.2 one\n2.2 - three\n", (6, 1, 2, 0, ""))
        self.assert_patched("1 ant\n1.1 - two\n1.2 2.1 one\n2 bee\n2.1 - three\n", (6, 1, 1, 2, ""))
        self.assert_patched(SMALL_PRINTED, (6, 1, 1, 0, ""))
        self.assert_patched(SMALL_PRINTED, (6, 2, 1, 1, ""))

    def test_said(self):
        self.assert_patched(SMALL_PRINTED.replace("one", "said"), SAID)
        self.assert_patched(SMALL_PRINTED.replace("three", ""), (7, 3, 0, 0, ""))

    def test_pointed(self):
        self.assert_patched(SMALL_PRINTED.replace("- two", "1.1 two"), (8, 2, 1, 0, ""))
        self.assert_patched(SMALL_PRINTED.replace("- two", "1.2 two"), (8, 2, 2, 0, ""))
        self.assert_patched(SMALL_PRINTED.replace("2.1 one", "- one"), (8, 1, 0, 0, ""))

    def test_what_is_pointed_to_is_not_asked(self):
        for target in (4, 5, 50, 51, 100):
            self.assert_patched(SMALL_PRINTED.replace("- two", "0.0 two"), (8, 2, target, 0, ""))

    def test_one_behind_the_other(self):
        self.assert_patched("1 new\n1.1 1.2 x\n1.2 - two\n2 bee\n2.1 - last\n2.2 - three\n",
                            (3, 9, 0, 0, "new"), (5, 7, 9, 0, "x"), (6, 2, 9, 7, ""), (1, 1, 0, 0, ""),
                            (8, 7, 2, 0, ""), (5, 1, 2, 0, "one"), (7, 1, 0, 0, "last"))

    def test_a_name_that_went_may_come_again(self):
        self.assert_patched(SMALL_PRINTED + "3 cow\n3.1 - four\n", (3, 3, 2, 0, "cow"), (5, 4, 3, 0, "four"))
        self.assert_patched("1 ant\n1.1 2.1 one\n1.2 - two\n2 bee\n2.1 - again\n", (2, 3, 0, 0, ""),
                            (5, 3, 2, 0, "again"))

    def test_one_made_again_points_to_none(self):
        self.assert_patched(SMALL_PRINTED.replace("2.1 one", "- one"), (2, 1, 0, 0, ""), (5, 1, 1, 0, "one"))

    def test_a_pointer_finds_a_sense_that_is_made_later(self):
        self.assert_patched(SMALL_PRINTED.replace("- two", "2.2 two") + "2.2 - new\n", (8, 2, 77, 0, ""),
                            (5, 77, 2, 3, "new"))

    def test_names_up_to_100(self):
        self.assert_patched(SMALL_PRINTED + "3 new\n3.1 3.1 x\n", (3, 100, 2, 0, "new"), (5, 100, 100, 0, "x"),
                            (8, 100, 100, 0, ""))

    def test_100_entries_and_100_senses(self):
        made = as_numbers(*[(3, name, name - 1, 0, "a") for name in range(1, 101)])
        lines = "".join(f"{place} a\n" for place in range(1, 101))
        self.assertEqual(last(patch(0, made)), [0, 0] + list(lines.encode()))
        senses = as_numbers((3, 100, 0, 0, "a"), *[(5, name, 100, name - 1, "") for name in range(1, 101)],
                            (8, 1, 100, 0, ""))
        lines = "1 a\n1.1 1.100 \n" + "".join(f"1.{place} - \n" for place in range(2, 101))
        self.assertEqual(last(patch(0, senses)), [0, 0] + list(lines.encode()))

    def test_limits_of_the_house_are_none_of_a_patch(self):
        full = [entry(0)] * 20 + [sense(1, 0)] * 50
        row = as_numbers((3, 21, 0, 0, "new"), (5, 51, 21, 0, "x"))
        answer = last(*full, patch(0, row))
        self.assertEqual(bytes(answer[2:]).decode().split("\n")[:3], ["1 new", "1.1 - x", "2 a"])

    def test_a_book_and_an_edition(self):
        row = as_numbers((8, 1, 0, 0, ""))
        told = run(*SMALL, say(1, "now"), patch(0, row), patch(1, row))
        self.assertEqual(bytes(told[-2][2:]).decode(), SMALL_PRINTED.replace("2.1 one", "- now"))
        self.assertEqual(bytes(told[-1][2:]).decode(),
                         SMALL_PRINTED.replace("2.1 one", "- one") + "3 cow\n3.1 - four\n")


class NotAppliedTest(Patched):
    REASONS = [
        (1, 3, 0, 0, ""), (1, 4, 0, 0, ""), (1, 0, 0, 0, ""), (1, 100, 0, 0, ""),
        (2, 4, 0, 0, ""), (2, 5, 0, 0, ""), (2, 0, 0, 0, ""), (2, 100, 0, 0, ""),
        # An entry whose name is there, or 0; behind itself; behind what isn't there.
        (3, 1, 0, 0, "new"), (3, 2, 1, 0, "new"), (3, 0, 0, 0, "new"), (3, 4, 4, 0, "new"), (3, 4, 3, 0, "new"),
        (3, 4, 100, 0, "new"), (3, 0, 3, 0, "new"), (3, 1, 1, 0, "new"),
        (4, 3, 0, 0, ""), (4, 0, 0, 0, ""), (4, 1, 1, 0, ""), (4, 1, 3, 0, ""), (4, 3, 3, 0, ""), (4, 100, 1, 0, ""),
        # A sense whose name is there, also in another entry, or 0; into no entry; behind what isn't in the row.
        (5, 1, 1, 0, "new"), (5, 3, 1, 0, "new"), (5, 0, 1, 0, "new"), (5, 5, 3, 0, "new"), (5, 5, 0, 0, "new"),
        (5, 5, 1, 5, "new"), (5, 5, 1, 3, "new"), (5, 5, 1, 4, "new"), (5, 5, 2, 1, "new"), (5, 1, 1, 1, "new"),
        (6, 4, 1, 0, ""), (6, 0, 1, 0, ""), (6, 1, 3, 0, ""), (6, 1, 0, 0, ""), (6, 1, 1, 1, ""), (6, 1, 2, 1, ""),
        (6, 1, 2, 2, ""), (6, 1, 1, 3, ""), (6, 1, 1, 4, ""), (6, 4, 1, 4, ""),
        (7, 4, 0, 0, "x"), (7, 5, 0, 0, ""), (7, 0, 0, 0, "x"),
        (8, 4, 1, 0, ""), (8, 5, 0, 0, ""), (8, 0, 1, 0, ""), (8, 0, 0, 0, ""),
    ]

    def test_each_reason(self):
        for change in self.REASONS:
            with self.subTest(change=change):
                self.assert_not_applied(1, change)
                self.assert_not_applied(3, SAID, SAID, change, SAID)

    def test_the_first_is_told(self):
        self.assert_not_applied(2, SAID, (1, 3, 0, 0, ""), (2, 4, 0, 0, ""), SAID, (1, 3, 0, 0, ""))

    def test_the_last_of_600(self):
        row = as_numbers((8, 1, 0, 0, "")) * 599
        self.assertEqual(last(*SMALL, patch(0, row + as_numbers((8, 4, 0, 0, "")))), [0, 1, 600])

    def test_what_an_earlier_change_took_or_made_counts(self):
        self.assert_not_applied(2, (1, 1, 0, 0, ""), (1, 1, 0, 0, ""))
        self.assert_not_applied(2, (2, 1, 0, 0, ""), (7, 1, 0, 0, "x"))
        self.assert_not_applied(2, (2, 1, 0, 0, ""), (8, 1, 2, 0, ""))
        self.assert_not_applied(2, (2, 1, 0, 0, ""), (6, 1, 2, 0, ""))
        self.assert_not_applied(2, (2, 1, 0, 0, ""), (6, 2, 1, 1, ""))
        self.assert_not_applied(2, (3, 4, 0, 0, "new"), (3, 4, 0, 0, "new"))
        self.assert_not_applied(2, (5, 5, 1, 0, "new"), (5, 5, 2, 0, "new"))
        self.assert_not_applied(2, (6, 1, 2, 0, ""), (6, 2, 1, 1, ""))
        self.assert_not_applied(2, (1, 2, 0, 0, ""), (6, 1, 2, 0, ""))
        self.assert_not_applied(2, (1, 2, 0, 0, ""), (4, 1, 2, 0, ""))

    def test_an_edition_is_asked_by_itself(self):
        self.assert_not_applied(1, (1, 4, 0, 0, ""), book=1)
        self.assert_patched(SMALL_PRINTED, (1, 3, 0, 0, ""), book=1)
        self.assert_not_applied(1, (1, 3, 0, 0, ""), book=0)


class NoChangesTest(Case):
    """-3, on a book where all of these that were changes could be applied."""

    SETUP = [entry(0, "ant"), entry(1, "bee"), sense(1, 0, "one"), sense(1, 1, "two")]
    RIGHT = [(1, 2, 0, 0, ""), (2, 2, 0, 0, ""), (3, 9, 1, 0, "new"), (4, 1, 2, 0, ""), (5, 9, 1, 2, "new"),
             (6, 1, 2, 0, ""), (7, 1, 0, 0, "said"), (8, 1, 2, 0, "")]
    COUNTS = {1: 1, 2: 1, 3: 2, 4: 2, 5: 3, 6: 3, 7: 1, 8: 2}

    def assert_no_changes(self, row):
        said = as_numbers((7, 1, 0, 0, "x"))
        not_applied = as_numbers((1, 7, 0, 0, ""))
        for ahead in ([], said, not_applied, said * 30):
            self.assert_refused(-3, self.SETUP, patch(0, ahead + row))
        # What comes behind may be taken for what is missing, so only numbers that can't be part of a change.
        self.assert_refused(-3, self.SETUP, patch(0, row + [-1]))

    def test_the_right_ones_are_applied(self):
        for change in self.RIGHT:
            self.assertEqual(last(*self.SETUP, patch(0, as_numbers(change)))[:2], [0, 0])

    def test_a_kind_that_is_none(self):
        for kind in (0, 9, 10, 100, 101, -1, 1000000000000000000, -1000000000000000000):
            for rest in ([0, 0, 0, 0], [1, 0, 0, 0], [1, 1, 1, 0], [1, 0, 0, 1, 97]):
                self.assert_no_changes([kind] + rest)

    def test_a_number_below_0_or_above_100(self):
        for change in self.RIGHT:
            for place in range(5):
                for beyond in (-1, 101, -1000000000000000000, 1000000000000000000):
                    row = as_numbers(change)
                    row[place] = beyond
                    with self.subTest(change=change, place=place, beyond=beyond):
                        self.assert_no_changes(row)

    def test_100_is_a_number_that_may_stand(self):
        for change in self.RIGHT:
            for place in range(1, 1 + self.COUNTS[change[0]]):
                row = as_numbers(change)
                row[place] = 100
                self.assertEqual(last(*self.SETUP, patch(0, row))[0], 0)
                row[place] = 0
                self.assertEqual(last(*self.SETUP, patch(0, row))[0], 0)

    def test_a_number_that_must_be_0(self):
        for change in self.RIGHT:
            for place in range(1 + self.COUNTS[change[0]], 4):
                for other in (1, 2, 100):
                    row = as_numbers(change)
                    row[place] = other
                    with self.subTest(change=change, place=place, other=other):
                        self.assert_no_changes(row)

    def test_bytes_behind_a_kind_that_has_none(self):
        for change in self.RIGHT:
            if change[0] not in (3, 5, 7):
                for text in ("a", "abc", "a" * 30):
                    self.assert_no_changes(as_numbers(change[:4] + (text,)))
                self.assert_no_changes(as_numbers(change)[:4] + [1])

    def test_bytes_that_are_too_few(self):
        for change in self.RIGHT:
            row = as_numbers(change)
            for length in range(1, len(row)):
                with self.subTest(change=change, length=length):
                    self.assert_refused(-3, self.SETUP, patch(0, row[:length]))
                    self.assert_refused(-3, self.SETUP, patch(0, as_numbers((1, 7, 0, 0, "")) + row[:length]))
        self.assert_refused(-3, self.SETUP, patch(0, [7, 1, 0, 0, 30] + [97] * 29))
        self.assert_refused(-3, self.SETUP, patch(0, [3, 9, 1, 0, 12] + [97] * 11))

    def test_numbers_left_over(self):
        for change in self.RIGHT:
            row = as_numbers(change)
            for left in ([0], [1], [97], [1, 7], [1, 7, 0, 0], [0] * 5, [97] * 5):
                self.assert_no_changes(row + left)

    def test_a_word_that_is_none(self):
        for word in ("", "A", "a b", "a1", "ab-", "a" * 13, "a" * 100):
            self.assert_no_changes(as_numbers((3, 9, 1, 0, word)))
        for byte in (96, 123, 0, -1, 255, 256 + 97, 1000000000000000000):
            self.assert_no_changes([3, 9, 1, 0, 1, byte])
            self.assert_no_changes([3, 9, 1, 0, 3, 97, 97, byte])

    def test_words_at_the_edges(self):
        for word in ("a", "z", "az" * 6):
            wanted = f"1 ant\n1.1 - one\n1.2 - two\n2 {word}\n3 bee\n"
            self.assertEqual(last(*self.SETUP, patch(0, as_numbers((3, 9, 1, 0, word)))),
                             [0, 0] + list(wanted.encode()))

    def test_a_text_that_is_none(self):
        for head in ([5, 9, 1, 0], [7, 1, 0, 0]):
            for length in (31, 32, 100):
                self.assert_no_changes(head + [length] + [97] * length)
            for byte in (31, 127, 10, 0, -1, 255, 256 + 97, -1000000000000000000):
                self.assert_no_changes(head + [1, byte])
                self.assert_no_changes(head + [3, 97, 97, byte])

    def test_texts_at_the_edges(self):
        for text in ("", " ", "~", " ~" * 15):
            for change, wanted in (((5, 9, 2, 0, text), f"1 ant\n1.1 - one\n1.2 - two\n2 bee\n2.1 - {text}\n"),
                                   ((7, 2, 0, 0, text), f"1 ant\n1.1 - one\n1.2 - {text}\n2 bee\n")):
                self.assertEqual(last(*self.SETUP, patch(0, as_numbers(change))), [0, 0] + list(wanted.encode()))

    def test_behind_one_that_cannot_be_applied(self):
        self.assert_refused(-3, [], patch(0, as_numbers((1, 1, 0, 0, "")) + [9, 0, 0, 0, 0]))
        self.assertEqual(last(patch(0, as_numbers((1, 1, 0, 0, ""), (1, 1, 0, 0, "")))), [0, 1, 1])


def some_change(source):
    """A change with numbers that are often there."""
    kind = source.randint(1, 8)
    # Mostly few names, so that what a change asks for is often there, and often is not.
    three = [source.choice([0, 1, 2, 3, 4, 5, 6, 7, 8, source.randint(0, 100)]) for _ in range(3)]
    count = {1: 1, 2: 1, 3: 2, 4: 2, 5: 3, 6: 3, 7: 1, 8: 2}[kind]
    text = {3: "new", 5: "t", 7: "said"}.get(kind, "")
    return (kind, *(three[:count] + [0, 0])[:3], text)


def can_be_applied(model, change):
    kind, one, two, three, _ = change
    entries = [home[0] for home in model.entries]
    rows = {home[0]: [inner[0] for inner in home[2]] for home in model.entries}
    senses = [name for row in rows.values() for name in row]
    if kind in (1, 4):
        there = one in entries
    elif kind in (2, 6, 7, 8):
        there = one in senses
    elif kind == 3:
        there = one != 0 and one not in entries
    else:
        there = one != 0 and one not in senses
    if kind in (3, 4):
        return there and two in [0] + entries and two != one
    if kind in (5, 6):
        return there and two in entries and three in [0] + rows[two] and three != one
    return there


class RandomTest(Case):
    def test_changes_that_can_and_that_cannot_be_applied(self):
        applied = []
        for seed in range(150):
            calls, models = history(seed)
            source = random.Random(seed)
            for book in range(5):
                told = [some_change(source) for _ in range(source.randint(1, 12))]
                model = models[book].copy()
                # Leave most that can't be applied out, so that many can be, one behind the other.
                kept = []
                wanted = None
                for change in told:
                    if wanted is None and not can_be_applied(model, change):
                        if source.random() < 0.9:
                            continue
                        wanted = [0, 1, len(kept) + 1]
                    if wanted is None:
                        model.apply(change)
                    kept.append(change)
                if wanted is None:
                    wanted = [0, 0] + list(model.printed().encode())
                answer = last(*calls, patch(book, as_numbers(*kept)))
                self.assertEqual(answer, wanted, (seed, book, kept))
                applied.append(answer[1])
        self.assertGreater(applied.count(0), 100)
        self.assertGreater(applied.count(1), 100)


class NothingChangedTest(Case):
    def test_books_log_and_editions_are_as_before(self):
        setup = SMALL + [say(1, "now"), freeze(), moveentry(2, 0), movesense(1, 2, 0), dropsense(2)]
        every = as_numbers((3, 9, 0, 0, "new"), (5, 9, 9, 0, "x"), (4, 2, 9, 0, ""), (6, 1, 9, 9, ""),
                           (7, 1, 0, 0, "said"), (8, 1, 9, 0, ""), (2, 3, 0, 0, ""), (1, 2, 0, 0, ""))
        for book in range(3):
            for row in (every, every + as_numbers((1, 2, 0, 0, "")), every + [0]):
                self.assert_only_told(last(*setup, patch(book, row)), setup, patch(book, row))
        self.assertEqual([last(*setup, patch(0, every + more))[:2] for more in ([], as_numbers((1, 2, 0, 0, "")))],
                         [[0, 0], [0, 1]])

    def test_a_patch_goes_on_from_the_book_and_not_from_another_patch(self):
        row = as_numbers((3, 9, 0, 0, "new"))
        told = run(*SMALL, patch(0, row), patch(0, row), patch(1, row), patch(1, row), state(), changes(0, 0),
                   print_book(0))
        self.assertEqual(told[-7], told[-6])
        self.assertEqual(told[-5], told[-4])
        self.assertEqual(told[-3:], [[0, 9, 3, 4, 1, 8], [0, 0], [0] + list(SMALL_PRINTED.encode())])
