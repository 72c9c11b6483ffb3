"""Calls 14 to 18: numbers of senses, names by numbers, senses followed from book to book, and pointers."""

from tests.helper import (Case, carry, dead, dropentry, dropsense, entry, freeze, history, last, moveentry, movesense,
                          name_at, number, pointers, point, run, say, sense)

# Now: entry 2 with senses 3, 1; entry 1 with sense 2; entry 3 alone. In edition 1: 1 with 1, 2; 2 with 3, 4; 3.
MOVED = [entry(0, "ant"), entry(1, "bee"), entry(2, "cow"), sense(1, 0, "one"), sense(1, 1, "two"),
         sense(2, 0, "three"), sense(2, 3, "four"), freeze(), moveentry(2, 0), movesense(1, 2, 3), dropsense(4)]
# 20 entries, 50 senses in the last of them.
WHOLE = [entry(name, "w") for name in range(20)] + [sense(20, name, "t") for name in range(50)]


class NumberTest(Case):
    def test_senses_that_are_there(self):
        for name, wanted in ((1, [0, 1, 1]), (2, [0, 1, 2]), (3, [0, 2, 1]), (4, [0, 2, 2])):
            self.assert_only_told(wanted, MOVED, number(1, name))

    def test_senses_that_moved(self):
        for name, wanted in ((1, [0, 1, 2]), (2, [0, 2, 1]), (3, [0, 1, 1])):
            self.assert_only_told(wanted, MOVED, number(0, name))

    def test_senses_that_are_not_there(self):
        self.assertEqual(last(*MOVED, number(0, 4)), [0, 0, 0])
        self.assertEqual(last(*MOVED, number(0, 5)), [0, 0, 0])
        self.assertEqual(last(*MOVED, number(1, 50)), [0, 0, 0])
        self.assertEqual(last(number(0, 1)), [0, 0, 0])
        self.assertEqual(last(*MOVED, sense(3, 0), number(1, 5)), [0, 0, 0])
        self.assertEqual(last(*MOVED, dropentry(2), number(0, 3)), [0, 0, 0])

    def test_numbers_of_two_digits(self):
        self.assertEqual(last(*WHOLE, number(0, 50)), [0, 20, 50])
        self.assertEqual(last(*WHOLE, number(0, 1)), [0, 20, 1])


class NameTest(Case):
    def test_senses_that_are_there(self):
        for place, wanted in (((1, 1), 1), ((1, 2), 2), ((2, 1), 3), ((2, 2), 4)):
            self.assert_only_told([0, wanted], MOVED, name_at(1, *place))
        for place, wanted in (((1, 1), 3), ((1, 2), 1), ((2, 1), 2)):
            self.assert_only_told([0, wanted], MOVED, name_at(0, *place))

    def test_there_is_none(self):
        for place in ((1, 3), (2, 2), (3, 1), (4, 1), (20, 50), (1, 50), (20, 1)):
            self.assert_only_told([0, 0], MOVED, name_at(0, *place))
        self.assertEqual(last(name_at(0, 1, 1)), [0, 0])

    def test_numbers_of_two_digits(self):
        self.assertEqual(last(*WHOLE, name_at(0, 20, 50)), [0, 50])
        self.assertEqual(last(*WHOLE, name_at(0, 19, 50)), [0, 0])


class CarryTest(Case):
    def test_from_an_edition_to_the_book_now(self):
        for place, wanted in (((1, 1), [0, 1, 2]), ((1, 2), [0, 2, 1]), ((2, 1), [0, 1, 1]), ((2, 2), [0, 0, 0])):
            self.assert_only_told(wanted, MOVED, carry(1, *place, 0))

    def test_from_the_book_now_to_an_edition(self):
        for place, wanted in (((1, 1), [0, 2, 1]), ((1, 2), [0, 1, 1]), ((2, 1), [0, 1, 2])):
            self.assert_only_told(wanted, MOVED, carry(0, *place, 1))

    def test_between_two_editions(self):
        calls = MOVED + [freeze(), dropentry(2), dropentry(1)]
        self.assertEqual(last(*calls, carry(1, 1, 1, 2)), [0, 1, 2])
        self.assertEqual(last(*calls, carry(2, 1, 2, 1)), [0, 1, 1])
        self.assertEqual(last(*calls, carry(1, 2, 2, 2)), [0, 0, 0])

    def test_within_one_book(self):
        self.assertEqual(last(*MOVED, carry(0, 1, 2, 0)), [0, 1, 2])
        self.assertEqual(last(*MOVED, carry(1, 2, 2, 1)), [0, 2, 2])

    def test_a_sense_that_came_later_is_not_in_an_edition(self):
        self.assertEqual(last(*MOVED, sense(3, 0), carry(0, 3, 1, 1)), [0, 0, 0])

    def test_a_new_sense_in_the_place_of_a_dropped_one_is_another(self):
        calls = [entry(0), sense(1, 0, "x"), freeze(), dropsense(1), sense(1, 0, "x")]
        self.assertEqual(last(*calls, carry(1, 1, 1, 0)), [0, 0, 0])
        self.assertEqual(last(*calls, carry(0, 1, 1, 1)), [0, 0, 0])

    def test_numbers_of_two_digits(self):
        self.assertEqual(last(*WHOLE, freeze(), carry(1, 20, 50, 0)), [0, 20, 50])


class PointersTest(Case):
    def test_none_point(self):
        self.assertEqual(run(pointers(0), dead(0)), [[0, 0], [0, 0]])
        self.assertEqual(run(*MOVED, pointers(0), pointers(1), dead(0), dead(1))[-4:], [[0, 0]] * 4)

    def test_in_the_order_of_print(self):
        calls = MOVED[:7] + [point(4, 1), point(1, 3), point(2, 2), freeze()]
        wanted = [0, 3, 1, 1, 2, 1, 1, 2, 1, 2, 2, 2, 1, 1]
        self.assert_only_told(wanted, calls, pointers(0))
        self.assert_only_told(wanted, calls, pointers(1))
        self.assert_only_told([0, 3, 1, 2, 2, 1, 2, 1, 1, 1, 2, 2, 2, 2], calls + [moveentry(2, 0)], pointers(0))

    def test_to_none_again(self):
        self.assertEqual(last(*MOVED, point(1, 2), point(3, 1), point(1, 0), pointers(0)), [0, 1, 1, 1, 1, 2])

    def test_dead_ones_point_too(self):
        calls = MOVED[:7] + [point(1, 4), point(2, 3), point(3, 4), freeze(), dropsense(4)]
        told = run(*calls, pointers(0), pointers(1), dead(0), dead(1))[-4:]
        self.assertEqual(told, [[0, 3, 1, 1, 0, 0, 1, 2, 2, 1, 2, 1, 0, 0], [0, 3, 1, 1, 2, 2, 1, 2, 2, 1, 2, 1, 2, 2],
                                [0, 2, 1, 1, 2, 1], [0, 0]])

    def test_what_went_with_its_entry(self):
        calls = MOVED[:7] + [point(1, 3), point(2, 4), point(3, 1), dropentry(2)]
        self.assert_only_told([0, 2, 1, 1, 0, 0, 1, 2, 0, 0], calls, pointers(0))
        self.assert_only_told([0, 2, 1, 1, 1, 2], calls, dead(0))

    def test_a_dead_pointer_in_an_edition(self):
        calls = MOVED[:7] + [point(1, 4), dropsense(4), freeze(), point(1, 1)]
        self.assertEqual(run(*calls, dead(1), dead(0), pointers(1))[-3:], [[0, 1, 1, 1], [0, 0], [0, 1, 1, 1, 0, 0]])

    def test_a_sense_that_points_to_itself_is_not_dead(self):
        calls = [entry(0), sense(1, 0), point(1, 1)]
        self.assertEqual(run(*calls, pointers(0), dead(0))[-2:], [[0, 1, 1, 1, 1, 1], [0, 0]])

    def test_50_pointers(self):
        calls = WHOLE + [point(name, 51 - name) for name in range(1, 51)]
        wanted = [one for place in range(1, 51) for one in (20, place, 20, 51 - place)]
        self.assertEqual(last(*calls, pointers(0)), [0, 50] + wanted)
        wanted = [one for place in range(1, 50) for one in (20, place)]
        all_to_one = WHOLE + [point(name, 50) for name in range(1, 51)] + [dropsense(50)]
        self.assertEqual(last(*all_to_one, dead(0)), [0, 49] + wanted)


class RandomTest(Case):
    def places(self, model):
        """Of each sense of a book that is kept by hand: its number."""
        return {one[0]: [place, inner] for place, home in enumerate(model.entries, 1)
                for inner, one in enumerate(home[2], 1)}

    def test_numbers_names_and_carried_senses(self):
        for seed in range(60):
            calls, models = history(seed)
            first, second = seed % 5, seed // 5 % 5
            here, there = self.places(models[first]), self.places(models[second])
            asked = [number(first, name) for name in range(1, 31)]
            self.assertEqual(run(*calls, *asked)[-30:], [[0] + here.get(name, [0, 0]) for name in range(1, 31)])
            by_place = {tuple(place): name for name, place in here.items()}
            grid = [(place, inner) for place in range(1, 8) for inner in range(1, 8)]
            self.assertEqual(run(*calls, *[name_at(first, *place) for place in grid])[-49:],
                             [[0, by_place.get(place, 0)] for place in grid])
            self.assertEqual(run(*calls, *[carry(first, *place, second) for place in grid])[-49:],
                             [[0] + there.get(by_place[place], [0, 0]) if place in by_place else [-6]
                              for place in grid])

    def test_pointers(self):
        for seed in range(60):
            calls, models = history(seed)
            for book, model in enumerate(models):
                here = self.places(model)
                pointing = [(here[name], here.get(target, [0, 0])) for home in model.entries
                            for name, _, target in home[2] if target]
                gone = [place for place, target in pointing if target == [0, 0]]
                told = run(*calls, pointers(book), dead(book))[-2:]
                self.assertEqual(told[0], [0, len(pointing)] + [one for pair in pointing for place in pair
                                                                for one in place])
                self.assertEqual(told[1], [0, len(gone)] + [one for place in gone for one in place])

    def test_a_text_does_not_matter(self):
        self.assertEqual(last(*MOVED, say(1, "other"), number(0, 1)), [0, 1, 2])
