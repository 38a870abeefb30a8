"""What doorwalk/walking.py tells: points 5 to 7."""

import inspect
import unittest

from doorwalk import walking
from doorwalk.answers import Breaks, Ended, Full, Out
from doorwalk.triangles import doors, fulls, put, turn
from doorwalk.walking import told, walk, walk_out
from tests import samples

# (triangle, what each door in tells, what each full small triangle tells), worked out by hand:
# the small triangles walked, and the door out or None.
WALKS = [
    (["ab", "c"], {0: ([(0, 0, 1)], None)}, {(0, 0, 1): ([(0, 0, 1)], 0)}),
    (["bc", "a"], {2: ([(0, 0, 1)], None)}, {(0, 0, 1): ([(0, 0, 1)], 2)}),
    (["cb", "a"], {1: ([(0, 0, 1)], None)}, {(0, 0, 1): ([(0, 0, 1)], 1)}),
    (["aa", "b"], {1: ([(0, 0, 1)], 2), 2: ([(0, 0, 1)], 1)}, {}),
    (["ab", "a"], {0: ([(0, 0, 1)], 1), 1: ([(0, 0, 1)], 0)}, {}),
    (["ab", "b"], {0: ([(0, 0, 1)], 2), 2: ([(0, 0, 1)], 0)}, {}),
    (["cc", "c"], {}, {}),
    (["aab", "cb", "c"], {1: ([(0, 1, 1), (0, 0, 0)], None)}, {(0, 0, 0): ([(0, 0, 0), (0, 1, 1)], 1)}),
    (["bab", "cb", "c"],
     {0: ([(0, 0, 1)], None), 1: ([(0, 1, 1), (0, 0, 0)], None)},
     {(0, 0, 0): ([(0, 0, 0), (0, 1, 1)], 1), (0, 0, 1): ([(0, 0, 1)], 0)}),
    (["bbb", "ab", "a"],
     {3: ([(1, 0, 1), (0, 0, 0), (0, 0, 1)], 5), 5: ([(0, 0, 1), (0, 0, 0), (1, 0, 1)], 3)}, {}),
    (["abab", "cac", "bc", "a"],
     {0: ([(0, 0, 1)], None), 1: ([(0, 1, 1), (0, 0, 0)], None), 2: ([(0, 2, 1)], None), 6: ([(2, 0, 1)], None)},
     {(0, 0, 0): ([(0, 0, 0), (0, 1, 1)], 1), (0, 0, 1): ([(0, 0, 1)], 0), (0, 2, 1): ([(0, 2, 1)], 2),
      (1, 0, 0): ([(1, 0, 0), (1, 0, 1)], None), (1, 0, 1): ([(1, 0, 1), (1, 0, 0)], None),
      (2, 0, 1): ([(2, 0, 1)], 6)}),
]

# (triangle, the first spot that breaks the rule), one of two rows for each side and corner, then larger ones.
BROKEN = [
    (["bb", "c"], (0, 0)), (["cb", "c"], (0, 0)), (["aa", "c"], (0, 1)), (["ac", "c"], (0, 1)),
    (["ab", "a"], (1, 0)), (["ab", "b"], (1, 0)), (["cc", "c"], (0, 0)), (["ac", "b"], (0, 1)), (["ba", "a"], (0, 0)),
    (["acbb", "ccc", "cc", "c"], (0, 1)), (["abcb", "ccc", "cc", "c"], (0, 2)),
    (["aabb", "bcc", "cc", "c"], (1, 0)), (["aabb", "aaa", "cc", "c"], (1, 2)),
    (["aabb", "cab", "bb", "c"], (2, 0)), (["aabb", "cab", "ca", "c"], (2, 1)), (["aabb", "cab", "cb", "b"], (3, 0)),
    (["aabb", "cab", "cb", "a"], (3, 0)),
    (["accb", "bca", "ba", "a"], (0, 1)), (["aaba", "bca", "ba", "a"], (0, 3)), (["aabb", "bca", "ba", "a"], (1, 0)),
    (["aabb", "cca", "ba", "a"], (1, 2)), (["aabb", "ccb", "ba", "a"], (2, 0)), (["aabb", "ccb", "aa", "a"], (2, 1)),
]


def every_triangle():
    more = samples.larger()
    return samples.two_rows() + samples.three_rows() + more + [samples.keeping(triangle) for triangle in more]


def plain(answer):
    """The small triangles of a walk, and the door out or None."""
    if type(answer) is Ended:
        return answer.smalls, None
    assert type(answer) is Out
    return answer.smalls, answer.door


def end_of(answer):
    """Where a walk ends: a full small triangle, or the count of a door."""
    smalls, door = plain(answer)
    return smalls[-1] if door is None else door


def walk_from(triangle, start):
    """The walk that comes in by the count of a door, or begins at a full small triangle."""
    return walk_out(triangle, start) if isinstance(start, tuple) else walk(triangle, start)


def starts(triangle):
    return doors(triangle) + fulls(triangle)


def sign(triangle, end):
    """The turn of a full small triangle; of a door 1 if it leads from a to b, else -1."""
    if isinstance(end, tuple):
        return turn(triangle, end)
    return {"ab": 1, "ba": -1}[samples.side_walk(triangle)[end:end + 2]]


class Interface(unittest.TestCase):
    def test_names_and_arguments(self):
        listed = {"told": ["triangle"], "walk": ["triangle", "door"], "walk_out": ["triangle", "small"]}
        for name, arguments in listed.items():
            asked = getattr(walking, name)
            self.assertTrue(inspect.isfunction(asked), name)
            self.assertEqual(asked.__module__, "doorwalk.walking", name)
            self.assertEqual(list(inspect.signature(asked).parameters), arguments, name)

    def test_arguments_by_keyword(self):
        self.assertEqual(vars(told(triangle=["ab", "c"])), {"row": 0, "place": 0, "up": 1})
        self.assertEqual(vars(walk(triangle=["ab", "c"], door=0)), {"smalls": [(0, 0, 1)]})
        self.assertEqual(vars(walk_out(triangle=["ab", "c"], small=(0, 0, 1))), {"smalls": [(0, 0, 1)], "door": 0})


class Told(unittest.TestCase):
    def breaks(self, triangle, spot):
        answer = told(triangle)
        self.assertIs(type(answer), Breaks, triangle)
        self.assertEqual((answer.row, answer.place), spot, triangle)
        self.assertIs(answer.shows(triangle), True, triangle)

    def full(self, triangle):
        answer = told(triangle)
        self.assertIs(type(answer), Full, triangle)
        self.assertIn((answer.row, answer.place, answer.up), fulls(triangle), triangle)
        self.assertIs(answer.shows(triangle), True, triangle)

    def test_those_that_break_the_rule_by_hand(self):
        for triangle, spot in BROKEN:
            self.breaks(triangle, spot)

    def test_those_that_keep_the_rule_by_hand(self):
        self.assertEqual(vars(told(["ab", "c"])), {"row": 0, "place": 0, "up": 1})
        self.assertEqual(vars(told(["aab", "cb", "c"])), {"row": 0, "place": 0, "up": 0})
        self.assertEqual(vars(told(["abb", "cb", "c"])), {"row": 0, "place": 0, "up": 1})
        self.assertEqual(vars(told(["aab", "ab", "c"])), {"row": 1, "place": 0, "up": 1})
        self.assertEqual(vars(told(["aab", "ac", "c"])), {"row": 0, "place": 1, "up": 1})

    def test_all_that_keep_the_rule(self):
        for triangle in samples.keepers():
            self.assertEqual(samples.breaking(triangle), [])
            self.full(triangle)

    def test_each_triangle(self):
        for triangle in every_triangle():
            breaking = samples.breaking(triangle)
            if breaking:
                self.breaks(triangle, breaking[0])
            else:
                self.full(triangle)

    def test_one_spot_that_breaks_it(self):
        for seed in range(4):
            triangle = samples.keeping(samples.mixed(6, "abc", seed))
            self.full(triangle)
            last = len(triangle) - 1
            for at in range(last + 1):
                self.breaks(put(triangle, 0, at, "c"), (0, at))
                self.breaks(put(triangle, at, 0, "b"), (at, 0))
                self.breaks(put(triangle, at, last - at, "a"), (at, last - at))

    def test_the_first_of_two_spots_that_break_it(self):
        triangle = samples.keeping(samples.mixed(5, "abc", 1))
        side = [((0, 1), "c"), ((0, 3), "c"), ((1, 0), "b"), ((1, 3), "a"), ((2, 0), "b"), ((2, 2), "a"), ((4, 0), "a")]
        for at, (first, letter) in enumerate(side):
            for second, other in side[at + 1:]:
                self.breaks(put(put(triangle, *first, letter), *second, other), first)

    def test_letters_within_break_nothing(self):
        for letter in "abc":
            self.full(["aabb", "c" + letter + "c", "cc", "c"])

    def test_full_ones_help_not_where_the_rule_is_broken(self):
        self.assertEqual(fulls(["cb", "a"]), [(0, 0, 1)])
        self.breaks(["cb", "a"], (0, 0))
        self.breaks(["abab", "cac", "bc", "a"], (2, 0))

    def test_tells_numbers(self):
        for triangle in (["ab", "c"], ["aab", "cb", "c"], ["bb", "c"], ["ab", "a"]):
            self.assertEqual({type(value) for value in vars(told(triangle)).values()}, {int})

    def test_a_large_one(self):
        self.full(samples.keeping(samples.mixed(80, "abc", 3)))


class Walks(unittest.TestCase):
    def test_by_hand(self):
        for triangle, ways_in, from_full in WALKS:
            self.assertEqual(doors(triangle), sorted(ways_in), triangle)
            self.assertEqual(fulls(triangle), sorted(from_full), triangle)
            for door, walked in ways_in.items():
                self.assertEqual(plain(walk(triangle, door)), walked, (triangle, door))
            for small, walked in from_full.items():
                self.assertEqual(plain(walk_out(triangle, small)), walked, (triangle, small))

    def test_in_by_each_door(self):
        for triangle in every_triangle():
            path = samples.side_path(triangle)
            between = samples.doors_between(triangle)
            for door in doors(triangle):
                step = frozenset(path[door:door + 2])
                walked = samples.slow_walk(triangle, between[step][0], [step])
                self.assertEqual(plain(walk(triangle, door)), walked, (triangle, door))

    def test_from_each_full_one(self):
        for triangle in every_triangle():
            for small in fulls(triangle):
                walked = samples.slow_walk(triangle, small, [])
                self.assertEqual(plain(walk_out(triangle, small)), walked, (triangle, small))

    def test_each_step_leads_through_one_door_and_none_twice(self):
        for triangle in every_triangle():
            there = samples.small_spots(triangle)
            path = samples.side_path(triangle)
            for start in starts(triangle):
                smalls, door = plain(walk_from(triangle, start))
                gone = [set(path[at:at + 2]) for at in (start, door) if isinstance(at, int)]
                if door is not None:
                    self.assertLessEqual(set(path[door:door + 2]), set(there[smalls[-1]]))
                if isinstance(start, int):
                    self.assertLessEqual(set(path[start:start + 2]), set(there[smalls[0]]))
                gone += [set(there[here]) & set(there[following]) for here, following in zip(smalls, smalls[1:])]
                for pair in gone:
                    self.assertEqual(sorted([triangle[row][place] for row, place in pair]), ["a", "b"])
                self.assertEqual(len({frozenset(pair) for pair in gone}), len(gone))

    def test_full_ones_stand_at_the_ends_alone(self):
        for triangle in every_triangle():
            full = fulls(triangle)
            for start in starts(triangle):
                smalls, door = plain(walk_from(triangle, start))
                ends = [start] if isinstance(start, tuple) else []
                ends += [] if door is not None else [smalls[-1]]
                self.assertEqual([small for small in smalls if small in full], ends, (triangle, start))
                self.assertEqual(len(set(smalls)), len(smalls))

    def test_walks_out_go_by_a_door_of_the_side(self):
        for triangle in every_triangle():
            for start in starts(triangle):
                door = plain(walk_from(triangle, start))[1]
                if door is not None:
                    self.assertIn(door, doors(triangle))
                    self.assertNotEqual(door, start)

    def test_back_it_is_the_same_the_other_way_round(self):
        for triangle in every_triangle():
            for start in starts(triangle):
                answer = walk_from(triangle, start)
                back = walk_from(triangle, end_of(answer))
                self.assertEqual(back.smalls, answer.smalls[::-1], (triangle, start))
                self.assertEqual(end_of(back), start, (triangle, start))

    def test_no_two_lead_to_one_end(self):
        for triangle in every_triangle():
            ends = [end_of(walk_from(triangle, start)) for start in starts(triangle)]
            self.assertEqual(sorted(ends, key=str), sorted(starts(triangle), key=str), triangle)

    def test_turns_and_doors_at_both_ends(self):
        for triangle in every_triangle():
            for start in starts(triangle):
                end = end_of(walk_from(triangle, start))
                alike = sign(triangle, start) == sign(triangle, end)
                # A door and a full one go together, two of one kind go against each other.
                self.assertEqual(alike, isinstance(start, tuple) != isinstance(end, tuple), (triangle, start, end))

    def test_each_kind_of_ends_is_met(self):
        met = set()
        for triangle in every_triangle():
            for start in starts(triangle):
                end = end_of(walk_from(triangle, start))
                met.add((isinstance(start, tuple), isinstance(end, tuple)))
        self.assertEqual(len(met), 4)

    def test_round_one_spot(self):
        # The spots round the one at (1, 1), gone round to the left, and the small triangles between each and the next.
        beside = [(1, 2), (2, 1), (2, 0), (1, 0), (0, 1), (0, 2)]
        ring = [(1, 1, 1), (1, 0, 0), (1, 0, 1), (0, 0, 0), (0, 1, 1), (0, 1, 0)]
        triangle = ["cbbc", "bab", "bb", "c"]
        self.assertEqual(starts(triangle), [])
        for at, (row, place) in enumerate(beside):
            broken = put(triangle, row, place, "c")
            self.assertEqual(fulls(broken), sorted([ring[at], ring[at - 1]]))
            self.assertEqual(plain(walk_out(broken, ring[at])), (ring[at:] + ring[:at], None))
            self.assertEqual(plain(walk_out(broken, ring[at - 1])), ((ring[at:] + ring[:at])[::-1], None))

    def test_far_longer_than_a_run_may_nest(self):
        many = 700
        triangle = ["a" * many, "b" * (many - 1)] + ["c" * size for size in range(many - 2, 0, -1)]
        strip = [(0, 0, 1)]
        for place in range(many - 2):
            strip += [(0, place, 0), (0, place + 1, 1)]
        answer = walk(triangle, 3 * (many - 1) - 1)
        self.assertEqual(plain(answer), (strip, many - 1))
        self.assertEqual(plain(walk(triangle, many - 1)), (strip[::-1], 3 * (many - 1) - 1))

    def test_tells_triples_of_numbers(self):
        for triangle in samples.larger():
            for start in starts(triangle):
                smalls, door = plain(walk_from(triangle, start))
                self.assertIs(type(smalls), list)
                self.assertEqual({type(small) for small in smalls}, {tuple})
                self.assertEqual({(len(small),) + tuple(map(type, small)) for small in smalls}, {(3, int, int, int)})
                self.assertIn(type(door), (int, type(None)))


class Own(unittest.TestCase):
    """Nothing handed in is changed or kept, and each list that is told is the asker's own."""

    def test_what_is_handed_in_stays(self):
        for triangle in samples.larger():
            before = list(triangle)
            told(triangle)
            for start in starts(triangle):
                walk_from(triangle, start)
            self.assertEqual(triangle, before)

    def test_told_lists_are_told_anew(self):
        triangle = ["bab", "cb", "c"]
        for start in starts(triangle):
            first = walk_from(triangle, start)
            whole = list(first.smalls)
            first.smalls.append("more")
            first.smalls[0] = "other"
            self.assertEqual(walk_from(triangle, start).smalls, whole)
        self.assertEqual(triangle, ["bab", "cb", "c"])

    def test_the_small_triangle_handed_in_is_not_kept(self):
        small = tuple([0, 0, 1])
        answer = walk_out(["ab", "c"], small)
        self.assertEqual(answer.smalls, [(0, 0, 1)])
        self.assertIsNot(answer.smalls[0], small)

    def test_answers_stay_as_they_were_told(self):
        triangle = ["bab", "cb", "c"]
        walked, broken = walk(triangle, 1), told(triangle)
        triangle[0] = "aab"
        triangle[2] = "a"
        self.assertEqual(walked.smalls, [(0, 1, 1), (0, 0, 0)])
        self.assertEqual((broken.row, broken.place), (0, 0))

    def test_a_triangle_changed_between_is_told_as_it_stands(self):
        triangle = ["ab", "c"]
        self.assertEqual(plain(walk(triangle, 0)), ([(0, 0, 1)], None))
        triangle[1] = "a"
        self.assertEqual(plain(walk(triangle, 0)), ([(0, 0, 1)], 1))
        self.assertEqual(vars(told(triangle)), {"row": 1, "place": 0})


if __name__ == "__main__":
    unittest.main()
