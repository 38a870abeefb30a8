"""What doorwalk/triangles.py and doorwalk/walking.py refuse, of any kind, and which refusal goes first."""

import unittest

from doorwalk.errors import BadDoor, BadSmall, BadSpot, BadTriangle
from doorwalk.triangles import around, doors, fulls, put, turn
from doorwalk.walking import told, walk, walk_out
from tests import samples

# Python does not write out a number of so many digits: no message may try to.
HUGE = 10 ** 5000

TWO = ["ab", "c"]
THREE = ["abc", "ca", "b"]
FOUR = ["abab", "cac", "bc", "a"]

NO_NUMBERS = [None, True, False, "0", "", b"0", 0.0, 1.0, float("nan"), [], [0], (), (0,), {}, set(), object()]
NO_LETTERS = [None, True, False, 0, 1, "", "ab", "abc", "bc", "d", "A", " ", "a ", "\n", "\u0430", b"a",
              ["a"], ("a",), {"a": 1}, {"a"}, [], (), object(), str, HUGE]
NO_TRIPLES = [None, True, False, 0, HUGE, 1.5, "", "001", b"001", [0, 0, 1], [], {}, {0: 0, 1: 0, 2: 1}, {0, 1},
              object(), tuple, (), (0,), (0, 0), (0, 0, 1, 0), (0, 0, 1, 1), ((0, 0, 1),), [(0, 0, 1)], ((0, 0), 1)]


class Refusals(unittest.TestCase):
    def refused(self, error, ask, *handed):
        """Refused with just this error, and not with another one that is straight under the same."""
        with self.assertRaises(error) as caught:
            ask(*handed)
        self.assertIs(type(caught.exception), error)


class NoTriangle(Refusals):
    def test_refused_by_each(self):
        for at, triangle in enumerate(samples.NO_TRIANGLES):
            with self.subTest(at=at):
                self.refused(BadTriangle, fulls, triangle)
                self.refused(BadTriangle, around, triangle)
                self.refused(BadTriangle, doors, triangle)
                self.refused(BadTriangle, turn, triangle, (0, 0, 1))
                self.refused(BadTriangle, put, triangle, 0, 0, "a")
                self.refused(BadTriangle, told, triangle)
                self.refused(BadTriangle, walk, triangle, 0)
                self.refused(BadTriangle, walk_out, triangle, (0, 0, 1))

    def test_each_single_spot_with_another_letter(self):
        for row, place in samples.spots(FOUR):
            for other in ("d", "A", " ", "\u00e4", "0"):
                rows = list(FOUR)
                rows[row] = rows[row][:place] + other + rows[row][place + 1:]
                for ask in (fulls, around, doors, told):
                    self.refused(BadTriangle, ask, rows)

    def test_each_single_row_of_another_length(self):
        for row in range(4):
            for other in (FOUR[row] + "a", FOUR[row][:-1]):
                rows = FOUR[:row] + [other] + FOUR[row + 1:]
                for ask in (fulls, around, doors, told):
                    self.refused(BadTriangle, ask, rows)

    def test_goes_first(self):
        for triangle in ([], ["ab"], ("ab", "c"), ["ab", "d"], None, True):
            self.refused(BadTriangle, turn, triangle, None)
            self.refused(BadTriangle, turn, triangle, (9, 9, 9))
            self.refused(BadTriangle, turn, triangle, [0, 0, 1])
            self.refused(BadTriangle, put, triangle, -1, 0, "a")
            self.refused(BadTriangle, put, triangle, 0, 0, "d")
            self.refused(BadTriangle, put, triangle, None, None, None)
            self.refused(BadTriangle, walk, triangle, -1)
            self.refused(BadTriangle, walk, triangle, True)
            self.refused(BadTriangle, walk, triangle, None)
            self.refused(BadTriangle, walk_out, triangle, (0, 0, 0))
            self.refused(BadTriangle, walk_out, triangle, [0, 0, 1])
            self.refused(BadTriangle, walk_out, triangle, None)

    def test_what_is_refused_stays(self):
        triangle = ["abc", ["a", "b"], "c"]
        for ask in (fulls, around, doors, told):
            self.refused(BadTriangle, ask, triangle)
        self.assertEqual(triangle, ["abc", ["a", "b"], "c"])


class NoSmall(Refusals):
    def test_no_triples(self):
        for at, small in enumerate(NO_TRIPLES):
            with self.subTest(at=at):
                for ask in (turn, walk_out):
                    self.refused(BadSmall, ask, TWO, small)
                    self.refused(BadSmall, ask, FOUR, small)

    def test_no_numbers(self):
        for at, value in enumerate(NO_NUMBERS):
            with self.subTest(at=at):
                for ask in (turn, walk_out):
                    self.refused(BadSmall, ask, FOUR, (value, 0, 1))
                    self.refused(BadSmall, ask, FOUR, (1, value, 0))
                    self.refused(BadSmall, ask, FOUR, (0, 0, value))

    def test_all_round_the_triangle(self):
        for triangle in (TWO, THREE, FOUR, ["abcab", "abca", "abc", "ab", "a"]):
            there = samples.small_spots(triangle)
            for row in range(-7, 8):
                for place in range(-7, 8):
                    for up in (0, 1):
                        if (row, place, up) in there:
                            self.assertIn(turn(triangle, (row, place, up)), (-1, 0, 1))
                        else:
                            self.refused(BadSmall, turn, triangle, (row, place, up))
                            self.refused(BadSmall, walk_out, triangle, (row, place, up))

    def test_past_the_last_of_each_row(self):
        for small in ((0, 3, 1), (1, 2, 1), (2, 1, 1), (3, 0, 1), (0, 2, 0), (1, 1, 0), (2, 0, 0), (3, 0, 0)):
            self.refused(BadSmall, turn, FOUR, small)
            self.refused(BadSmall, walk_out, FOUR, small)

    def test_the_least_triangle_has_one(self):
        self.assertEqual(turn(TWO, (0, 0, 1)), 1)
        self.assertEqual(walk_out(TWO, (0, 0, 1)).smalls, [(0, 0, 1)])
        for small in ((0, 0, 0), (0, 1, 1), (1, 0, 1), (-1, 0, 1), (0, -1, 1), (0, -1, 0), (-1, -1, 0)):
            self.refused(BadSmall, turn, TWO, small)
            self.refused(BadSmall, walk_out, TWO, small)

    def test_another_kind_than_nought_and_one(self):
        for up in (-1, 2, 3, -HUGE, HUGE):
            for ask in (turn, walk_out):
                self.refused(BadSmall, ask, FOUR, (0, 0, up))
                self.refused(BadSmall, ask, FOUR, (1, 0, up))

    def test_numbers_of_any_size(self):
        for number in (10 ** 9, 2 ** 63, 2 ** 64, 10 ** 30, HUGE):
            for value in (number, -number):
                for ask in (turn, walk_out):
                    self.refused(BadSmall, ask, FOUR, (value, 0, 1))
                    self.refused(BadSmall, ask, FOUR, (0, value, 1))
                    self.refused(BadSmall, ask, FOUR, (0, value, 0))
                    self.refused(BadSmall, ask, FOUR, (value, value, value))

    def test_one_that_is_not_full_begins_no_walk(self):
        for triangle in samples.two_rows() + samples.three_rows() + samples.larger()[:40]:
            for small, three in samples.small_spots(triangle).items():
                if samples.turn_by_points(triangle, three) == 0:
                    self.refused(BadSmall, walk_out, triangle, small)
                else:
                    self.assertEqual(walk_out(triangle, small).smalls[0], small)

    def test_one_that_has_doors_but_is_not_full_begins_no_walk(self):
        self.refused(BadSmall, walk_out, ["aa", "b"], (0, 0, 1))
        self.refused(BadSmall, walk_out, ["aab", "cb", "c"], (0, 1, 1))


class NoDoor(Refusals):
    def test_no_numbers(self):
        for at, value in enumerate(NO_NUMBERS + [(0, 1), "ab", [(0, 0), (0, 1)], int, range(3)]):
            with self.subTest(at=at):
                self.refused(BadDoor, walk, TWO, value)
                self.refused(BadDoor, walk, FOUR, value)

    def test_each_count_about_the_side(self):
        for triangle in samples.two_rows() + samples.three_rows()[::4] + samples.larger():
            side = samples.side_walk(triangle)
            many = 3 * (len(triangle) - 1)
            for count in range(-many - 2, 2 * many + 2):
                if 0 <= count < many and side[count:count + 2] in ("ab", "ba"):
                    self.assertIsNot(walk(triangle, count), None)
                else:
                    self.refused(BadDoor, walk, triangle, count)

    def test_a_step_that_is_no_door(self):
        for count in (3, 4, 5, 7, 8):
            self.refused(BadDoor, walk, FOUR, count)

    def test_a_step_below_nought_is_not_counted_from_the_end(self):
        for count in (-9, -8, -7, -3):
            self.refused(BadDoor, walk, FOUR, count)

    def test_a_step_beyond_the_side_is_not_counted_round_it(self):
        for count in (9, 10, 11, 15, 18):
            self.refused(BadDoor, walk, FOUR, count)

    def test_numbers_of_any_size(self):
        for number in (10 ** 9, 2 ** 63, 2 ** 64, 9 * 10 ** 30, HUGE, 9 * HUGE):
            self.refused(BadDoor, walk, FOUR, number)
            self.refused(BadDoor, walk, FOUR, -number)

    def test_the_side_without_a_door(self):
        for count in range(-1, 4):
            self.refused(BadDoor, walk, ["cc", "c"], count)

    def test_true_and_false_where_their_counts_are_doors(self):
        self.assertEqual(doors(FOUR)[:2], [0, 1])
        self.refused(BadDoor, walk, FOUR, False)
        self.refused(BadDoor, walk, FOUR, True)
        self.refused(BadDoor, walk, FOUR, 1.0)

    def test_what_is_refused_stays(self):
        triangle, small = ["abc", "ca", "b"], [0, 0, 1]
        self.refused(BadDoor, walk, triangle, 1)
        self.refused(BadSmall, walk_out, triangle, small)
        self.assertEqual(triangle, ["abc", "ca", "b"])
        self.assertEqual(small, [0, 0, 1])


class NoSpot(Refusals):
    def test_all_round_the_triangle(self):
        for triangle in (TWO, THREE, FOUR):
            there = samples.spots(triangle)
            for row in range(-6, 7):
                for place in range(-6, 7):
                    if (row, place) in there:
                        self.assertEqual(put(triangle, row, place, "c")[row][place], "c")
                    else:
                        self.refused(BadSpot, put, triangle, row, place, "c")

    def test_no_numbers(self):
        for at, value in enumerate(NO_NUMBERS):
            with self.subTest(at=at):
                self.refused(BadSpot, put, FOUR, value, 0, "a")
                self.refused(BadSpot, put, FOUR, 0, value, "a")
                self.refused(BadSpot, put, FOUR, value, value, "a")

    def test_numbers_of_any_size(self):
        for number in (10 ** 9, 2 ** 63, 2 ** 64, 10 ** 30, HUGE):
            for value in (number, -number):
                self.refused(BadSpot, put, FOUR, value, 0, "a")
                self.refused(BadSpot, put, FOUR, 0, value, "a")
                self.refused(BadSpot, put, FOUR, value, value, "a")

    def test_no_letters(self):
        for at, letter in enumerate(NO_LETTERS):
            with self.subTest(at=at):
                for row, place in samples.spots(THREE):
                    self.refused(BadSpot, put, THREE, row, place, letter)

    def test_no_spot_and_no_letter(self):
        self.refused(BadSpot, put, FOUR, 4, 0, "d")
        self.refused(BadSpot, put, FOUR, None, "a", 0)
        self.refused(BadSpot, put, FOUR, HUGE, True, HUGE)

    def test_what_is_refused_stays(self):
        triangle = ["abc", "ca", "b"]
        self.refused(BadSpot, put, triangle, 0, 3, "a")
        self.refused(BadSpot, put, triangle, 0, 0, "d")
        self.refused(BadSmall, turn, triangle, (0, 1, 0))
        self.assertEqual(triangle, ["abc", "ca", "b"])


if __name__ == "__main__":
    unittest.main()
