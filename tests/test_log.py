"""Calls 19 and 21 to 24: what the log tells of a sense, of errata, of its lines, and what was made."""

from tests.helper import (FULL_LOG, Case, blame, corrected, dropentry, dropsense, entry, errata, erratum, freeze,
                          history, last, line, moveentry, movesense, point, print_book, run, say, sense, size, state)

SMALL = [entry(0, "ant"), entry(1, "bee"), sense(1, 0, "one"), sense(1, 1, "two"), sense(2, 0, "three")]


class BlameTest(Case):
    def test_made_alone(self):
        for name, place in ((1, 3), (2, 4), (3, 5)):
            self.assert_only_told([0, place, 0, 0, 0, 1], SMALL, blame(0, name))

    def test_each_act_of_it(self):
        self.assert_only_told([0, 4, 6, 0, 0, 2], SMALL + [say(2, "x")], blame(0, 2))
        self.assert_only_told([0, 4, 0, 6, 0, 2], SMALL + [point(2, 1)], blame(0, 2))
        self.assert_only_told([0, 4, 0, 0, 6, 2], SMALL + [movesense(2, 2, 0)], blame(0, 2))
        self.assert_only_told([0, 4, 7, 6, 8, 4], SMALL + [point(2, 0), say(2, "two"), movesense(2, 1, 1)],
                              blame(0, 2))

    def test_the_last_of_each_and_all_are_counted(self):
        calls = SMALL + [say(2, "x"), movesense(2, 2, 0), point(2, 1), say(2, "y"), say(1, "z"), movesense(2, 1, 0),
                         point(2, 0), point(2, 3), movesense(1, 2, 0), say(2, "")]
        self.assert_only_told([0, 4, 15, 13, 11, 9], calls, blame(0, 2))
        self.assert_only_told([0, 3, 10, 0, 14, 3], calls, blame(0, 1))
        self.assert_only_told([0, 5, 0, 0, 0, 1], calls, blame(0, 3))

    def test_what_points_to_it_and_its_entrys_acts_are_none_of_it(self):
        calls = SMALL + [point(1, 2), point(3, 2), moveentry(1, 2), moveentry(2, 0), entry(0), movesense(1, 1, 2)]
        self.assert_only_told([0, 4, 0, 0, 0, 1], calls, blame(0, 2))

    def test_errata_are_none_of_it(self):
        # The first number of an erratum is its edition, the second its sense.
        calls = SMALL + [freeze(), freeze(), erratum(1, 2, "x"), erratum(2, 1, "y"), erratum(2, 2, "z")]
        self.assert_only_told([0, 4, 0, 0, 0, 1], calls, blame(0, 2))
        self.assert_only_told([0, 3, 0, 0, 0, 1], calls, blame(0, 1))
        self.assert_only_told([0, 4, 0, 0, 0, 1], calls, blame(2, 2))

    def test_refused_acts_are_none_of_it(self):
        calls = SMALL + [say(2, [31]), point(2, 9), movesense(2, 2, 2), say(2, "x")]
        self.assert_only_told([0, 4, 6, 0, 0, 2], calls, blame(0, 2))

    def test_up_to_an_editions_length(self):
        calls = SMALL + [freeze(), say(2, "x"), point(2, 1), freeze(), say(2, "y"), movesense(2, 2, 0), say(1, "z"),
                         freeze(), dropsense(2)]
        self.assert_only_told([0, 4, 0, 0, 0, 1], calls, blame(1, 2))
        self.assert_only_told([0, 4, 6, 7, 0, 3], calls, blame(2, 2))
        self.assert_only_told([0, 4, 8, 7, 9, 5], calls, blame(3, 2))
        self.assert_refused(-6, calls, blame(0, 2))
        self.assert_only_told([0, 3, 10, 0, 0, 2], calls, blame(0, 1))

    def test_an_edition_that_ends_just_ahead_of_an_act(self):
        calls = SMALL[:4] + [freeze(), say(2, "x"), freeze()]
        self.assertEqual(run(*calls, blame(1, 2), blame(2, 2))[-2:], [[0, 4, 0, 0, 0, 1], [0, 4, 5, 0, 0, 2]])

    def test_names_after_drops_and_refusals(self):
        calls = [entry(0), sense(1, 0), dropsense(1), sense(1, 1), sense(1, 0), sense(2, 0), dropsense(2), sense(1, 0)]
        self.assertEqual(last(*calls, blame(0, 3)), [0, 6, 0, 0, 0, 1])

    def test_a_full_log(self):
        self.assertEqual(last(*FULL_LOG, blame(0, 1)), [0, 2, 200, 0, 0, 198])

    def test_many_rows_of_acts(self):
        for seed in range(60):
            calls, models = history(seed)
            kept = []
            lengths = [0]
            for call, answer in zip(calls, run(*calls)):
                if call == freeze():
                    lengths.append(len(kept))
                elif answer[0] == 0:
                    kept.append((call[0], answer[2] if call[0] == 1 else call[1]))
            lengths[0] = len(kept)
            for book, model in enumerate(models):
                told = run(*calls, *[blame(book, name) for name in range(1, 21)])[-20:]
                for name, answer in enumerate(told, 1):
                    places = {act: [place for place, one in enumerate(kept[:lengths[book]], 1) if one == (act, name)]
                              for act in (1, 2, 3, 4)}
                    wanted = [0] + [max(found, default=0) for found in places.values()]
                    wanted.append(sum(len(found) for found in places.values()))
                    self.assertEqual(answer, wanted if model.sense(name) else [-6])


class ErrataTest(Case):
    def test_none(self):
        self.assert_only_told([0, 0], SMALL + [freeze()], errata(1))
        self.assert_only_told([0, 0], SMALL + [freeze(), say(1, "x")], errata(1))

    def test_one(self):
        self.assert_only_told([0, 1, 1, 2, 2, 104, 105], SMALL + [freeze(), erratum(1, 2, "hi")], errata(1))

    def test_a_text_of_no_byte(self):
        self.assert_only_told([0, 1, 2, 1, 0], SMALL + [freeze(), erratum(1, 3, "")], errata(1))

    def test_several_of_one_sense_in_the_order_of_the_log(self):
        calls = SMALL + [freeze(), erratum(1, 3, "c"), erratum(1, 1, "a"), say(1, "no"), erratum(1, 3, "b")]
        self.assert_only_told([0, 3, 2, 1, 1, 99, 1, 1, 1, 97, 2, 1, 1, 98], calls, errata(1))

    def test_of_several_editions(self):
        calls = SMALL + [freeze(), moveentry(2, 0), freeze(), erratum(2, 3, "c"), erratum(1, 3, "b"),
                         erratum(2, 1, "a")]
        self.assert_only_told([0, 1, 2, 1, 1, 98], calls, errata(1))
        self.assert_only_told([0, 2, 1, 1, 1, 99, 2, 1, 1, 97], calls, errata(2))

    def test_the_number_is_that_in_the_edition(self):
        calls = SMALL + [freeze(), moveentry(2, 0), movesense(2, 2, 0), dropsense(1), erratum(1, 2, "x"),
                         erratum(1, 1, "y")]
        self.assert_only_told([0, 2, 1, 2, 1, 120, 1, 1, 1, 121], calls, errata(1))

    def test_the_longest_text(self):
        self.assertEqual(last(*SMALL, freeze(), erratum(1, 1, "~" * 30), errata(1)), [0, 1, 1, 1, 30] + [126] * 30)

    def test_refused_ones_are_none(self):
        calls = SMALL + [freeze(), erratum(1, 1, [31]), erratum(1, 4, "x"), erratum(2, 1, "x")]
        self.assert_only_told([0, 0], calls, errata(1))

    def test_edition_10(self):
        calls = SMALL + [freeze()] * 10 + [erratum(10, 1, "x"), erratum(9, 1, "y")]
        self.assertEqual(run(*calls, errata(10), errata(1))[-2:], [[0, 1, 1, 1, 1, 120], [0, 0]])


class LineTest(Case):
    ACTS = [entry(0, "ant"), entry(1, "bee"), sense(1, 0, "one"), sense(1, 1, ""), say(2, "two"), say(2, ""),
            point(1, 2), point(1, 0), movesense(2, 2, 0), movesense(1, 2, 2), moveentry(2, 0), freeze(),
            erratum(1, 2, "mended"), erratum(1, 1, ""), dropsense(2), dropentry(2)]
    LINES = [
        [0, 0, 0, 0, 0, 3, 97, 110, 116], [0, 0, 1, 0, 0, 3, 98, 101, 101], [0, 1, 1, 0, 0, 3, 111, 110, 101],
        [0, 1, 1, 1, 0, 0], [0, 2, 2, 0, 0, 3, 116, 119, 111], [0, 2, 2, 0, 0, 0], [0, 3, 1, 2, 0, 0],
        [0, 3, 1, 0, 0, 0], [0, 4, 2, 2, 0, 0], [0, 4, 1, 2, 2, 0], [0, 5, 2, 0, 0, 0],
        [0, 8, 1, 2, 0, 6, 109, 101, 110, 100, 101, 100], [0, 8, 1, 1, 0, 0], [0, 6, 2, 0, 0, 0], [0, 7, 2, 0, 0, 0],
    ]

    def test_every_act(self):
        for place, wanted in enumerate(self.LINES, 1):
            self.assert_only_told(wanted, self.ACTS, line(place))
        self.assert_refused(-5, self.ACTS, line(16))

    def test_an_act_is_told_alike_later(self):
        calls = []
        lines = []
        for act in self.ACTS:
            calls.append(act)
            if act != freeze():
                lines.append(last(*calls, line(len(lines) + 1)))
        self.assertEqual(lines, self.LINES)

    def test_refused_acts_and_others_are_no_lines(self):
        calls = [entry(1), entry(0, "ant"), print_book(0), freeze(), say(1), corrected(1), entry(1, "bee")]
        self.assertEqual(run(*calls, line(1), line(2), line(3))[-3:], [self.LINES[0], self.LINES[1], [-5]])

    def test_the_longest_word_and_text(self):
        calls = [entry(0, "z" * 12), sense(1, 0, "~" * 30)]
        self.assertEqual(run(*calls, line(1), line(2))[-2:],
                         [[0, 0, 0, 0, 0, 12] + [122] * 12, [0, 1, 1, 0, 0, 30] + [126] * 30])

    def test_all_lines_of_a_full_log(self):
        told = [last(*FULL_LOG, line(place)) for place in range(1, 201)]
        self.assertEqual(told[:4], [[0, 0, 0, 0, 0, 1, 97], [0, 1, 1, 0, 0, 0], [0, 1, 1, 1, 0, 0],
                                    [0, 2, 1, 0, 0, 1, 120]])
        self.assertEqual(told[3:], [told[3]] * 197)


# All that may be made is made: 20 entries, 50 senses, 200 lines, 10 editions.
MOST = ([freeze()] + [entry(0)] * 20 + [freeze()] + [sense(20, 0)] * 50 + [freeze()] + [say(1)] * 130 + [freeze()] * 7)


class SizeTest(Case):
    def test_ahead_of_the_first_act(self):
        self.assert_only_told([0, 0, 0, 0], [], size(0))
        self.assert_only_told([0, 0, 0, 0], [freeze()], size(1))

    def test_a_book_and_its_editions(self):
        calls = [freeze()] + SMALL + [freeze(), dropsense(1), freeze(), dropentry(2), erratum(2, 1, "x")]
        self.assert_only_told([0, 8, 1, 1], calls, size(0))
        self.assert_only_told([0, 0, 0, 0], calls, size(1))
        self.assert_only_told([0, 5, 2, 3], calls, size(2))
        self.assert_only_told([0, 6, 2, 2], calls, size(3))

    def test_all_dropped(self):
        self.assertEqual(last(*SMALL, dropentry(1), dropentry(2), size(0)), [0, 7, 0, 0])

    def test_moves_do_not_count(self):
        self.assertEqual(last(*SMALL, movesense(1, 2, 0), moveentry(2, 0), size(0)), [0, 7, 2, 3])

    def test_the_most_of_everything(self):
        self.assertEqual(run(*MOST, size(0), size(10), size(4), size(3), size(2), size(1))[-6:],
                         [[0, 200, 20, 50]] * 3 + [[0, 70, 20, 50], [0, 20, 20, 0], [0, 0, 0, 0]])


class StateTest(Case):
    def test_ahead_of_the_first_act(self):
        self.assert_only_told([0, 0, 0, 0, 0], [], state())

    def test_editions_with_their_lengths(self):
        calls = [freeze()] + SMALL + [freeze(), freeze(), say(1, "x"), freeze(), say(1, "y")]
        self.assert_only_told([0, 7, 2, 3, 4, 0, 5, 5, 6], calls, state())

    def test_dropped_ones_were_made(self):
        calls = SMALL + [dropsense(3), dropentry(1), dropentry(2)]
        self.assert_only_told([0, 8, 2, 3, 0], calls, state())

    def test_refused_calls_do_not_count(self):
        calls = SMALL + [entry(9), sense(1, 9), sense(9, 0), say(9), entry(0, "")]
        self.assert_only_told([0, 5, 2, 3, 0], calls, state())

    def test_an_erratum_is_a_line(self):
        self.assert_only_told([0, 6, 2, 3, 1, 5], SMALL + [freeze(), erratum(1, 1, "x")], state())

    def test_the_most_of_everything(self):
        wanted = [0, 200, 20, 50, 10, 0, 20, 70] + [200] * 7
        self.assertEqual(last(*MOST, state()), wanted)
        self.assertEqual(last(*MOST, freeze(), entry(0), sense(1, 0), say(1), state()), wanted)
