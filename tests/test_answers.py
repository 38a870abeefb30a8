"""The answers of doorwalk/answers.py: their fields, and what shows tells of answers made by hand."""

import inspect
import unittest

from doorwalk import answers
from doorwalk.answers import Answer, Breaks, Ended, Full, Out
from tests import samples

HUGE = 10 ** 5000
FAR = [10 ** 9, 2 ** 63, 2 ** 64, HUGE, -10 ** 9, -2 ** 63, -2 ** 64, -HUGE]
FOUR = ["abab", "cac", "bc", "a"]


def some_triangles():
    return samples.two_rows() + samples.three_rows()[::5] + samples.larger()[::3] + samples.keepers()[::7]


class Interface(unittest.TestCase):
    def test_classes(self):
        self.assertEqual(Answer.__bases__, (object,))
        for name in ("Full", "Breaks", "Ended", "Out"):
            self.assertEqual(getattr(answers, name).__bases__, (Answer,), name)
        for name in ("Answer", "Full", "Breaks", "Ended", "Out"):
            self.assertEqual(getattr(answers, name).__module__, "doorwalk.answers", name)

    def test_fields_in_their_order(self):
        listed = {Full: ["row", "place", "up"], Breaks: ["row", "place"], Ended: ["smalls"], Out: ["smalls", "door"]}
        for kind, fields in listed.items():
            self.assertEqual(list(inspect.signature(kind).parameters), fields)

    def test_fields_are_set_on_each_object(self):
        self.assertEqual(vars(Full(3, 4, 1)), {"row": 3, "place": 4, "up": 1})
        self.assertEqual(vars(Breaks(3, 4)), {"row": 3, "place": 4})
        self.assertEqual(vars(Ended([(0, 0, 1)])), {"smalls": [(0, 0, 1)]})
        self.assertEqual(vars(Out([(0, 0, 1)], 5)), {"smalls": [(0, 0, 1)], "door": 5})

    def test_fields_by_keyword(self):
        self.assertEqual(vars(Full(up=1, place=4, row=3)), {"row": 3, "place": 4, "up": 1})
        self.assertEqual(vars(Breaks(place=4, row=3)), {"row": 3, "place": 4})
        self.assertEqual(vars(Ended(smalls=[])), {"smalls": []})
        self.assertEqual(vars(Out(door=5, smalls=[])), {"smalls": [], "door": 5})

    def test_shows_stands_in_two_of_them(self):
        for kind in (Full, Breaks):
            self.assertIn("shows", vars(kind))
            self.assertEqual(list(inspect.signature(kind.shows).parameters), ["self", "triangle"])
        for answer in (Answer(), Ended([]), Out([], 0)):
            self.assertFalse(hasattr(answer, "shows"))

    def test_lists_are_copied(self):
        smalls = [(0, 0, 1), (0, 0, 0)]
        ended, out = Ended(smalls), Out(smalls, 3)
        smalls.append((1, 0, 1))
        smalls[0] = (9, 9, 1)
        self.assertEqual(ended.smalls, [(0, 0, 1), (0, 0, 0)])
        self.assertEqual(out.smalls, [(0, 0, 1), (0, 0, 0)])
        self.assertIs(type(ended.smalls), list)
        self.assertIs(type(out.smalls), list)

    def test_changed_fields_leave_the_list_handed_in(self):
        smalls = [(0, 0, 1)]
        Ended(smalls).smalls.append((0, 0, 0))
        Out(smalls, 3).smalls.clear()
        self.assertEqual(smalls, [(0, 0, 1)])

    def test_no_two_answers_share_a_list(self):
        smalls = [(0, 0, 1)]
        first, second = Ended(smalls), Ended(smalls)
        first.smalls.append((0, 0, 0))
        self.assertEqual(second.smalls, [(0, 0, 1)])


class FullShows(unittest.TestCase):
    def test_all_round_the_triangle(self):
        for triangle in some_triangles():
            full = [small for small, three in samples.small_spots(triangle).items()
                    if samples.turn_by_points(triangle, three) != 0]
            reach = range(-len(triangle) - 1, len(triangle) + 2)
            for row in reach:
                for place in reach:
                    for up in (-2, -1, 0, 1, 2):
                        told = Full(row, place, up).shows(triangle)
                        self.assertIs(told, (row, place, up) in full, (triangle, row, place, up))

    def test_by_hand(self):
        self.assertIs(Full(0, 0, 1).shows(["ab", "c"]), True)
        self.assertIs(Full(0, 0, 1).shows(["ba", "c"]), True)
        self.assertIs(Full(0, 0, 1).shows(["aa", "c"]), False)
        self.assertIs(Full(0, 0, 0).shows(["ab", "c"]), False)
        self.assertIs(Full(0, 0, 0).shows(["aab", "cb", "c"]), True)
        self.assertIs(Full(0, 1, 1).shows(["aab", "cb", "c"]), False)

    def test_below_nought_no_row_is_counted_from_the_end(self):
        for row, place in ((-1, 0), (0, -1), (-1, -1), (-3, 0), (0, -3), (-4, 0), (1, -2)):
            for up in (0, 1):
                self.assertIs(Full(row, place, up).shows(FOUR), False)

    def test_another_kind_than_nought_and_one(self):
        for up in [-1, 2, 3] + FAR:
            self.assertIs(Full(0, 0, up).shows(["bab", "cb", "c"]), False)

    def test_far_out(self):
        for far in FAR:
            self.assertIs(Full(far, 0, 1).shows(FOUR), False)
            self.assertIs(Full(0, far, 1).shows(FOUR), False)
            self.assertIs(Full(0, far, 0).shows(FOUR), False)
            self.assertIs(Full(far, far, far).shows(FOUR), False)
            self.assertIs(Full(far, -far, 1).shows(FOUR), False)

    def test_the_rule_need_not_be_kept(self):
        self.assertEqual(samples.breaking(["cb", "a"]), [(0, 0), (1, 0)])
        self.assertIs(Full(0, 0, 1).shows(["cb", "a"]), True)

    def test_fields_as_they_stand_then(self):
        answer = Full(0, 0, 1)
        self.assertIs(answer.shows(FOUR), True)
        answer.place = 1
        self.assertIs(answer.shows(FOUR), False)
        answer.row = 1
        self.assertIs(answer.shows(FOUR), False)
        answer.place = 0
        self.assertIs(answer.shows(FOUR), True)
        answer.up = 0
        self.assertIs(answer.shows(FOUR), True)
        answer.up = 2
        self.assertIs(answer.shows(FOUR), False)
        answer.up = 1
        answer.row = -HUGE
        self.assertIs(answer.shows(FOUR), False)

    def test_the_triangle_as_it_stands_then(self):
        triangle = ["ab", "c"]
        answer = Full(0, 0, 1)
        self.assertIs(answer.shows(triangle), True)
        triangle[0] = "aa"
        self.assertIs(answer.shows(triangle), False)
        self.assertIs(answer.shows(["cb", "a"]), True)
        self.assertEqual(triangle, ["aa", "c"])


class BreaksShows(unittest.TestCase):
    def test_all_round_the_triangle(self):
        for triangle in some_triangles():
            breaking = samples.breaking(triangle)
            reach = range(-len(triangle) - 1, len(triangle) + 2)
            for row in reach:
                for place in reach:
                    told = Breaks(row, place).shows(triangle)
                    self.assertIs(told, (row, place) in breaking, (triangle, row, place))

    def test_by_hand(self):
        triangle = ["cbca", "bca", "cb", "b"]
        for row, place in ((0, 0), (0, 2), (0, 3), (1, 0), (1, 2), (3, 0)):
            self.assertIs(Breaks(row, place).shows(triangle), True, (row, place))
        for row, place in ((0, 1), (1, 1), (2, 0), (2, 1)):
            self.assertIs(Breaks(row, place).shows(triangle), False, (row, place))

    def test_within_no_letter_breaks_it(self):
        for letter in "abc":
            self.assertIs(Breaks(1, 1).shows(["aabb", "c" + letter + "c", "cc", "c"]), False)

    def test_below_nought_no_spot_is_counted_from_the_end(self):
        triangle = ["ccc", "ba", "b"]
        for row, place in ((0, -1), (0, -3), (-1, 0), (-2, 0), (-3, 0), (1, -1), (1, -2), (-2, -1), (-1, -1)):
            self.assertIs(Breaks(row, place).shows(triangle), False, (row, place))

    def test_beyond_the_rows_and_places(self):
        triangle = ["ccc", "ba", "b"]
        for row, place in ((0, 3), (1, 2), (2, 1), (3, 0), (3, -1), (3, 3)):
            self.assertIs(Breaks(row, place).shows(triangle), False, (row, place))

    def test_far_out(self):
        for far in FAR:
            self.assertIs(Breaks(far, 0).shows(["ccc", "ba", "b"]), False)
            self.assertIs(Breaks(0, far).shows(["ccc", "ba", "b"]), False)
            self.assertIs(Breaks(far, far).shows(["ccc", "ba", "b"]), False)
            self.assertIs(Breaks(far, -far).shows(["ccc", "ba", "b"]), False)

    def test_fields_as_they_stand_then(self):
        triangle = ["ccc", "ba", "c"]
        answer = Breaks(0, 0)
        self.assertIs(answer.shows(triangle), True)
        answer.row = 2
        self.assertIs(answer.shows(triangle), False)
        answer.row = 1
        self.assertIs(answer.shows(triangle), True)
        answer.place = 2
        self.assertIs(answer.shows(triangle), False)
        answer.place = 1
        self.assertIs(answer.shows(triangle), True)
        answer.place = HUGE
        self.assertIs(answer.shows(triangle), False)

    def test_the_triangle_as_it_stands_then(self):
        triangle = ["cb", "c"]
        answer = Breaks(0, 0)
        self.assertIs(answer.shows(triangle), True)
        triangle[0] = "ab"
        self.assertIs(answer.shows(triangle), False)
        self.assertIs(answer.shows(["bb", "c"]), True)
        self.assertEqual(triangle, ["ab", "c"])


if __name__ == "__main__":
    unittest.main()
