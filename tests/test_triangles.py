"""What doorwalk/triangles.py tells of triangles: points 1 to 4."""

import inspect
import unittest
from itertools import product

from doorwalk import triangles
from doorwalk.triangles import around, doors, fulls, put, turn
from tests import samples

# What going round to the left from the first of the three spots can read.
TURNS = {"abc": 1, "bca": 1, "cab": 1, "acb": -1, "cba": -1, "bac": -1}


def every_triangle():
    return samples.two_rows() + samples.three_rows() + samples.larger()


class Interface(unittest.TestCase):
    def test_names_and_arguments(self):
        listed = {"fulls": ["triangle"], "around": ["triangle"], "doors": ["triangle"],
                  "turn": ["triangle", "small"], "put": ["triangle", "row", "place", "letter"]}
        for name, arguments in listed.items():
            told = getattr(triangles, name)
            self.assertTrue(inspect.isfunction(told), name)
            self.assertEqual(told.__module__, "doorwalk.triangles", name)
            self.assertEqual(list(inspect.signature(told).parameters), arguments, name)

    def test_arguments_by_keyword(self):
        self.assertEqual(fulls(triangle=["ab", "c"]), [(0, 0, 1)])
        self.assertEqual(around(triangle=["ab", "c"]), 1)
        self.assertEqual(doors(triangle=["ab", "c"]), [0])
        self.assertEqual(turn(triangle=["ab", "c"], small=(0, 0, 1)), 1)
        self.assertEqual(put(triangle=["ab", "c"], row=0, place=1, letter="c"), ["ac", "c"])


class ByHand(unittest.TestCase):
    def test_turns(self):
        for triangle, turns, _, _ in samples.BY_HAND:
            for small, told in turns.items():
                self.assertEqual(turn(triangle, small), told, (triangle, small))

    def test_fulls(self):
        for triangle, turns, _, _ in samples.BY_HAND:
            full = sorted([small for small in turns if turns[small] != 0])
            self.assertEqual(fulls(triangle), full, triangle)

    def test_doors(self):
        for triangle, _, told, _ in samples.BY_HAND:
            self.assertEqual(doors(triangle), told, triangle)

    def test_around(self):
        for triangle, _, _, told in samples.BY_HAND:
            self.assertEqual(around(triangle), told, triangle)


class Turns(unittest.TestCase):
    def test_each_lettering_of_the_kind_one(self):
        for first, second, above in product("abc", repeat=3):
            told = TURNS.get(first + second + above, 0)
            self.assertEqual(turn([first + second, above], (0, 0, 1)), told)
            self.assertEqual(turn(["a" + first + second, "b" + above, "c"], (0, 1, 1)), told)
            self.assertEqual(turn(["abc", first + second, above], (1, 0, 1)), told)

    def test_each_lettering_of_the_kind_nought(self):
        for ahead, right, left in product("abc", repeat=3):
            told = TURNS.get(ahead + right + left, 0)
            self.assertEqual(turn(["b" + ahead + "c", left + right, "a"], (0, 0, 0)), told)
            self.assertEqual(turn(["ab" + ahead + "c", "a" + left + right, "bc", "a"], (0, 1, 0)), told)
            self.assertEqual(turn(["abca", "c" + ahead + "b", left + right, "c"], (1, 0, 0)), told)

    def test_each_small_triangle_by_where_its_letters_lie(self):
        for triangle in every_triangle():
            for small, three in samples.small_spots(triangle).items():
                self.assertEqual(turn(triangle, small), samples.turn_by_points(triangle, three), (triangle, small))

    def test_tells_numbers(self):
        for triangle in (["ab", "c"], ["ba", "c"], ["aa", "c"]):
            self.assertIs(type(turn(triangle, (0, 0, 1))), int)


class Fulls(unittest.TestCase):
    def test_all_that_have_all_three_letters_rising(self):
        for triangle in every_triangle():
            full = [small for small, three in samples.small_spots(triangle).items()
                    if {triangle[row][place] for row, place in three} == {"a", "b", "c"}]
            self.assertEqual(fulls(triangle), sorted(full), triangle)

    def test_at_one_place_the_kind_nought_goes_first(self):
        self.assertEqual(fulls(["bab", "cb", "c"]), [(0, 0, 0), (0, 0, 1)])

    def test_the_last_ones_of_each_row(self):
        self.assertEqual(fulls(["ccab", "ccc", "cc", "c"]), [(0, 2, 1)])
        self.assertEqual(fulls(["cccc", "cab", "cc", "c"]), [(0, 1, 0), (1, 1, 1)])
        self.assertEqual(fulls(["cccc", "ccc", "ab", "c"]), [(1, 0, 0), (2, 0, 1)])
        self.assertEqual(fulls(["ccac", "ccb", "cc", "c"]), [(0, 1, 0), (0, 2, 1)])
        self.assertEqual(fulls(["cccc", "cac", "cb", "c"]), [(1, 0, 0), (1, 1, 1)])

    def test_none_full(self):
        for triangle in (["aa", "a"], ["abab", "bab", "ab", "b"], ["ccc", "cb", "b"], ["caca", "cac", "ca", "c"]):
            self.assertEqual(fulls(triangle), [])

    def test_each_is_a_tuple_of_numbers(self):
        for triangle in samples.larger():
            for small in fulls(triangle):
                self.assertIs(type(small), tuple)
                self.assertEqual([type(part) for part in small], [int, int, int])


class Side(unittest.TestCase):
    def test_doors_are_the_steps_between_a_and_b(self):
        for triangle in every_triangle():
            walk = samples.side_walk(triangle)
            steps = [walk[at:at + 2] for at in range(3 * (len(triangle) - 1))]
            told = [at for at, step in enumerate(steps) if step in ("ab", "ba")]
            self.assertEqual(doors(triangle), told, triangle)

    def test_the_steps_at_the_first_corner(self):
        self.assertEqual(doors(["acc", "cc", "c"]), [])
        self.assertEqual(doors(["abc", "cc", "c"]), [0])
        self.assertEqual(doors(["acc", "bc", "c"]), [5])
        self.assertEqual(doors(["bac", "ac", "c"]), [0, 5])

    def test_the_steps_at_the_right_corner(self):
        self.assertEqual(doors(["cab", "cc", "c"]), [1])
        self.assertEqual(doors(["ccb", "ca", "c"]), [2])
        self.assertEqual(doors(["cba", "cb", "c"]), [1, 2])

    def test_the_steps_at_the_corner_above(self):
        self.assertEqual(doors(["ccc", "cb", "a"]), [3])
        self.assertEqual(doors(["ccc", "ac", "b"]), [4])
        self.assertEqual(doors(["ccc", "bb", "a"]), [3, 4])

    def test_every_step_a_door(self):
        self.assertEqual(doors(["ababa", "bccb", "aca", "bb", "a"]), list(range(12)))

    def test_what_lies_within_is_no_door(self):
        self.assertEqual(doors(["cccc", "cac", "cc", "c"]), [])
        self.assertEqual(doors(["ccccc", "cabc", "cac", "cc", "c"]), [])

    def test_around_is_told_by_the_side(self):
        for triangle in every_triangle():
            walk = samples.side_walk(triangle)
            self.assertEqual(around(triangle), walk.count("ab") - walk.count("ba"), triangle)

    def test_around_is_the_turns_of_all_small_triangles_together(self):
        for triangle in every_triangle():
            turns = [turn(triangle, small) for small in samples.small_spots(triangle)]
            self.assertEqual(around(triangle), sum(turns), triangle)

    def test_around_counts_more_than_one_and_below_nought(self):
        self.assertEqual(around(["abca", "cab", "bc", "a"]), 3)
        self.assertEqual(around(["acba", "bac", "cb", "a"]), -3)
        self.assertEqual(around(["abcc", "ccc", "cc", "c"]), 1)
        self.assertEqual(around(["bacc", "ccc", "cc", "c"]), -1)
        self.assertEqual(around(["abab", "ccc", "cc", "c"]), 1)

    def test_a_larger_triangle_is_told_too(self):
        triangle = samples.mixed(60, "abc", 7)
        self.assertEqual(around(triangle), sum([turn(triangle, small) for small in fulls(triangle)]))


class Put(unittest.TestCase):
    def test_each_spot_and_letter(self):
        for triangle in (["ab", "c"], ["abc", "ca", "b"], ["abab", "cac", "bc", "a"]):
            for row, place in samples.spots(triangle):
                for letter in "abc":
                    told = [list(letters) for letters in triangle]
                    told[row][place] = letter
                    self.assertEqual(put(triangle, row, place, letter), ["".join(letters) for letters in told])

    def test_tells_a_triangle(self):
        told = put(["abc", "ca", "b"], 1, 1, "b")
        self.assertEqual(told, ["abc", "cb", "b"])
        self.assertIs(type(told), list)
        self.assertEqual([type(row) for row in told], [str, str, str])
        self.assertEqual(doors(told), [0])

    def test_the_same_letter_tells_a_new_list(self):
        triangle = ["ab", "c"]
        told = put(triangle, 1, 0, "c")
        self.assertEqual(told, triangle)
        self.assertIsNot(told, triangle)


class Own(unittest.TestCase):
    """Nothing handed in is changed or kept, and each list that is told is the asker's own."""

    def test_what_is_handed_in_stays(self):
        for triangle in samples.larger():
            before = list(triangle)
            small = (0, 0, 0)
            fulls(triangle)
            around(triangle)
            doors(triangle)
            turn(triangle, small)
            put(triangle, 1, 1, "a")
            put(triangle, 0, 0, "b")
            self.assertEqual(triangle, before)
            self.assertEqual(small, (0, 0, 0))

    def test_lists_told_are_told_anew(self):
        triangle = ["bab", "cb", "c"]
        for ask in (fulls, doors, lambda rows: put(rows, 0, 0, "a")):
            first = ask(triangle)
            whole = list(first)
            first.append("more")
            first[0] = "other"
            self.assertEqual(ask(triangle), whole)
            self.assertEqual(triangle, ["bab", "cb", "c"])

    def test_empty_lists_told_are_told_anew(self):
        for ask in (fulls, doors):
            ask(["cc", "c"]).append("more")
            self.assertEqual(ask(["cc", "c"]), [])

    def test_a_triangle_changed_between_is_told_as_it_stands(self):
        triangle = ["ab", "c"]
        self.assertEqual((fulls(triangle), around(triangle), doors(triangle)), ([(0, 0, 1)], 1, [0]))
        told = put(triangle, 1, 0, "a")
        triangle[0] = "cc"
        self.assertEqual((fulls(triangle), around(triangle), doors(triangle)), ([], 0, []))
        self.assertEqual(turn(triangle, (0, 0, 1)), 0)
        self.assertEqual(told, ["ab", "a"])

    def test_a_told_triangle_changed_leaves_the_one_handed_in(self):
        triangle = ["ab", "c"]
        put(triangle, 1, 0, "a")[0] = "cc"
        self.assertEqual(triangle, ["ab", "c"])


if __name__ == "__main__":
    unittest.main()
