"""What doorwalk/triangles.py refuses, of any kind, and which refusal goes first."""

import unittest

from doorwalk.errors import BadSmall, BadSpot, BadTriangle
from doorwalk.triangles import around, doors, fulls, put, turn
from tests import samples

# Python does not write out a number of so many digits: no message may try to.
HUGE = 10 ** 5000

TWO = ["ab", "c"]
THREE = ["abc", "ca", "b"]
FOUR = ["abab", "cac", "bc", "a"]

NO_NUMBERS = [None, True, False, "0", "", b"0", 0.0, 1.0, float("nan"), [], [0], (), (0,), {}, set(), object()]
NO_LETTERS = [None, True, False, 0, 1, "", "ab", "abc", "bc", "d", "A", " ", "a ", "\n", "\u0430", b"a",
              ["a"], ("a",), {"a": 1}, {"a"}, [], (), object(), str, HUGE]
NO_TRIPLES = [None, True, False, 0, HUGE, 1.5, "", "001", b"001", [0, 0, 1], [], {}, {0: 0, 1: 0, 2: 1}, {0, 1},
              object(), tuple, (), (0,), (0, 0), (0, 0, 1, 0), (0, 0, 1, 1), ((0, 0, 1),), [(0, 0, 1)], ((0, 0), 1)]


class Refusals(unittest.TestCase):
    def refused(self, error, ask, *handed):
        """Refused with just this error, and not with another one that is straight under the same."""
        with self.assertRaises(error) as caught:
            ask(*handed)
        self.assertIs(type(caught.exception), error)


class NoTriangle(Refusals):
    def test_refused_by_each(self):
        for at, triangle in enumerate(samples.NO_TRIANGLES):
            with self.subTest(at=at):
                self.refused(BadTriangle, fulls, triangle)
                self.refused(BadTriangle, around, triangle)
                self.refused(BadTriangle, doors, triangle)
                self.refused(BadTriangle, turn, triangle, (0, 0, 1))
                self.refused(BadTriangle, put, triangle, 0, 0, "a")

    def test_each_single_spot_with_another_letter(self):
        for row, place in samples.spots(FOUR):
            for other in ("d", "A", " ", "\u00e4", "0"):
                rows = list(FOUR)
                rows[row] = rows[row][:place] + other + rows[row][place + 1:]
                for ask in (fulls, around, doors):
                    self.refused(BadTriangle, ask, rows)

    def test_each_single_row_of_another_length(self):
        for row in range(4):
            for other in (FOUR[row] + "a", FOUR[row][:-1]):
                rows = FOUR[:row] + [other] + FOUR[row + 1:]
                for ask in (fulls, around, doors):
                    self.refused(BadTriangle, ask, rows)

    def test_goes_first(self):
        for triangle in ([], ["ab"], ("ab", "c"), ["ab", "d"], None, True):
            self.refused(BadTriangle, turn, triangle, None)
            self.refused(BadTriangle, turn, triangle, (9, 9, 9))
            self.refused(BadTriangle, turn, triangle, [0, 0, 1])
            self.refused(BadTriangle, put, triangle, -1, 0, "a")
            self.refused(BadTriangle, put, triangle, 0, 0, "d")
            self.refused(BadTriangle, put, triangle, None, None, None)

    def test_what_is_refused_stays(self):
        triangle = ["abc", ["a", "b"], "c"]
        for ask in (fulls, around, doors):
            self.refused(BadTriangle, ask, triangle)
        self.assertEqual(triangle, ["abc", ["a", "b"], "c"])


class NoSmall(Refusals):
    def test_no_triples(self):
        for at, small in enumerate(NO_TRIPLES):
            with self.subTest(at=at):
                self.refused(BadSmall, turn, TWO, small)
                self.refused(BadSmall, turn, FOUR, small)

    def test_no_numbers(self):
        for at, value in enumerate(NO_NUMBERS):
            with self.subTest(at=at):
                self.refused(BadSmall, turn, FOUR, (value, 0, 1))
                self.refused(BadSmall, turn, FOUR, (1, value, 0))
                self.refused(BadSmall, turn, FOUR, (0, 0, value))

    def test_all_round_the_triangle(self):
        for triangle in (TWO, THREE, FOUR, ["abcab", "abca", "abc", "ab", "a"]):
            there = samples.small_spots(triangle)
            for row in range(-7, 8):
                for place in range(-7, 8):
                    for up in (0, 1):
                        if (row, place, up) in there:
                            self.assertIn(turn(triangle, (row, place, up)), (-1, 0, 1))
                        else:
                            self.refused(BadSmall, turn, triangle, (row, place, up))

    def test_past_the_last_of_each_row(self):
        for small in ((0, 3, 1), (1, 2, 1), (2, 1, 1), (3, 0, 1), (0, 2, 0), (1, 1, 0), (2, 0, 0), (3, 0, 0)):
            self.refused(BadSmall, turn, FOUR, small)

    def test_the_least_triangle_has_one(self):
        self.assertEqual(turn(TWO, (0, 0, 1)), 1)
        for small in ((0, 0, 0), (0, 1, 1), (1, 0, 1), (-1, 0, 1), (0, -1, 1), (0, -1, 0), (-1, -1, 0)):
            self.refused(BadSmall, turn, TWO, small)

    def test_another_kind_than_nought_and_one(self):
        for up in (-1, 2, 3, -HUGE, HUGE):
            self.refused(BadSmall, turn, FOUR, (0, 0, up))
            self.refused(BadSmall, turn, FOUR, (1, 0, up))

    def test_numbers_of_any_size(self):
        for number in (10 ** 9, 2 ** 63, 2 ** 64, 10 ** 30, HUGE):
            for value in (number, -number):
                self.refused(BadSmall, turn, FOUR, (value, 0, 1))
                self.refused(BadSmall, turn, FOUR, (0, value, 1))
                self.refused(BadSmall, turn, FOUR, (0, value, 0))
                self.refused(BadSmall, turn, FOUR, (value, value, value))


class NoSpot(Refusals):
    def test_all_round_the_triangle(self):
        for triangle in (TWO, THREE, FOUR):
            there = samples.spots(triangle)
            for row in range(-6, 7):
                for place in range(-6, 7):
                    if (row, place) in there:
                        self.assertEqual(put(triangle, row, place, "c")[row][place], "c")
                    else:
                        self.refused(BadSpot, put, triangle, row, place, "c")

    def test_no_numbers(self):
        for at, value in enumerate(NO_NUMBERS):
            with self.subTest(at=at):
                self.refused(BadSpot, put, FOUR, value, 0, "a")
                self.refused(BadSpot, put, FOUR, 0, value, "a")
                self.refused(BadSpot, put, FOUR, value, value, "a")

    def test_numbers_of_any_size(self):
        for number in (10 ** 9, 2 ** 63, 2 ** 64, 10 ** 30, HUGE):
            for value in (number, -number):
                self.refused(BadSpot, put, FOUR, value, 0, "a")
                self.refused(BadSpot, put, FOUR, 0, value, "a")
                self.refused(BadSpot, put, FOUR, value, value, "a")

    def test_no_letters(self):
        for at, letter in enumerate(NO_LETTERS):
            with self.subTest(at=at):
                for row, place in samples.spots(THREE):
                    self.refused(BadSpot, put, THREE, row, place, letter)

    def test_no_spot_and_no_letter(self):
        self.refused(BadSpot, put, FOUR, 4, 0, "d")
        self.refused(BadSpot, put, FOUR, None, "a", 0)
        self.refused(BadSpot, put, FOUR, HUGE, True, HUGE)

    def test_what_is_refused_stays(self):
        triangle = ["abc", "ca", "b"]
        self.refused(BadSpot, put, triangle, 0, 3, "a")
        self.refused(BadSpot, put, triangle, 0, 0, "d")
        self.refused(BadSmall, turn, triangle, (0, 1, 0))
        self.assertEqual(triangle, ["abc", "ca", "b"])


if __name__ == "__main__":
    unittest.main()
