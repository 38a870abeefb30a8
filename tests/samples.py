"""Triangles for the tests, values that are refused, and a second way to count by coordinates."""

from itertools import combinations, product

# (triangle, the turn of each small triangle, doors, around), worked out by hand.
BY_HAND = [
    (["ab", "c"], {(0, 0, 1): 1}, [0], 1),
    (["ba", "c"], {(0, 0, 1): -1}, [0], -1),
    (["bc", "a"], {(0, 0, 1): 1}, [2], 1),
    (["cb", "a"], {(0, 0, 1): -1}, [1], -1),
    (["ca", "b"], {(0, 0, 1): 1}, [1], 1),
    (["ac", "b"], {(0, 0, 1): -1}, [2], -1),
    (["aa", "b"], {(0, 0, 1): 0}, [1, 2], 0),
    (["cc", "c"], {(0, 0, 1): 0}, [], 0),
    (["aab", "cb", "c"], {(0, 0, 0): 1, (0, 0, 1): 0, (0, 1, 1): 0, (1, 0, 1): 0}, [1], 1),
    (["bab", "cb", "c"], {(0, 0, 0): 1, (0, 0, 1): -1, (0, 1, 1): 0, (1, 0, 1): 0}, [0, 1], 0),
    (["bbb", "ab", "a"], {(0, 0, 0): 0, (0, 0, 1): 0, (0, 1, 1): 0, (1, 0, 1): 0}, [3, 5], 0),
    (["abab", "cac", "bc", "a"],
     {(0, 0, 0): -1, (0, 0, 1): 1, (0, 1, 0): 0, (0, 1, 1): 0, (0, 2, 1): 1,
      (1, 0, 0): -1, (1, 0, 1): 1, (1, 1, 1): 0, (2, 0, 1): 1},
     [0, 1, 2, 6], 2),
]

NO_TRIANGLES = [
    None, True, False, 0, 2, 10 ** 5000, "", "ab", "abc", b"ab", (), ("ab", "c"), {}, {"ab": "c"}, {"ab", "c"},
    object(), list, 1.5,
    [], ["a"], ["ab"], [[]],
    ["ab", ""], ["ab", "cc"], ["a", "b"], ["abc", "c"], ["c", "ab"], ["abc", "ab"], ["abc", "ab", ""],
    ["abc", "a", "ab"], ["abc", "ab", "c", ""], ["ab", "c", "a"], ["abc", "abc", "abc"],
    ["ab", None], ["ab", 1], ["ab", True], [None, "c"], ["ab", b"c"], [b"ab", "c"], ["ab", ["c"]],
    [["a", "b"], ["c"]], [("a", "b"), "c"], ["ab", ("c",)], [{"a": 1, "b": 2}, "c"],
    ["ab", "d"], ["aB", "c"], ["ab", "C"], ["a ", "c"], ["ab", " "], ["a1", "c"], ["ab", "\n"], ["a\u0430", "c"],
    ["abc", "ad", "c"], ["abd", "ab", "c"], ["dbc", "ab", "c"], ["abc", "ab", "x"], ["a\u00e4c", "ab", "c"],
]


def two_rows():
    """All triangles of two rows."""
    return [["".join(word[:2]), word[2]] for word in product("abc", repeat=3)]


def three_rows():
    """All triangles of three rows."""
    return [["".join(word[:3]), "".join(word[3:5]), word[5]] for word in product("abc", repeat=6)]


def mixed(many, letters, seed):
    """A triangle of so many rows, its letters drawn from a text by plain counting."""
    rows = []
    for size in range(many, 0, -1):
        row = ""
        for _ in range(size):
            seed = (seed * 1103515245 + 12345) % 2 ** 31
            row += letters[(seed >> 16) % len(letters)]
        rows.append(row)
    return rows


def larger():
    """Triangles of four and more rows: any letters, few of one, none full."""
    made = []
    for many in (4, 5, 6, 9, 14):
        for seed in range(6):
            made.append(mixed(many, "abc", seed))
            made.append(mixed(many, "aaaaabbbbbc", seed))
            made.append(mixed(many, "abbbbbbbccc", seed))
        made.append(mixed(many, "ab", many))
        made.append(mixed(many, "bc", many))
        made.append(mixed(many, "c", many))
    return made


def point(row, place):
    """Where a spot lies, in halves, so that all are whole numbers."""
    return 2 * place + row, 2 * row


def cross(first, second, third):
    """Above 0 just if the three points go round to the left."""
    return ((second[0] - first[0]) * (third[1] - first[1])
            - (second[1] - first[1]) * (third[0] - first[0]))


def spots(triangle):
    return [(row, place) for row in range(len(triangle)) for place in range(len(triangle) - row)]


def small_spots(triangle):
    """Each small triangle and its spots, as the document words them, kept where all are spots."""
    there = set(spots(triangle))
    found = {}
    for row in range(-1, len(triangle) + 1):
        for place in range(-1, len(triangle) + 1):
            upright = {(row, place), (row, place + 1), (row + 1, place)}
            hanging = {(row, place + 1), (row + 1, place + 1), (row + 1, place)}
            if upright <= there:
                found[(row, place, 1)] = sorted(upright)
            if hanging <= there:
                found[(row, place, 0)] = sorted(hanging)
    return found


def turn_by_points(triangle, three):
    """The turn by where the letters lie: the sign of the round from a to b to c."""
    at = {triangle[row][place]: point(row, place) for row, place in three}
    if len(at) < 3:
        return 0
    return 1 if cross(at["a"], at["b"], at["c"]) > 0 else -1


def side_path(triangle):
    """The spots of the side, gone round step by step, ending with the first one again."""
    last = len(triangle) - 1
    path = [(0, 0)]
    for step_row, step_place in [(0, 1)] * last + [(1, -1)] * last + [(-1, 0)] * last:
        path.append((path[-1][0] + step_row, path[-1][1] + step_place))
    return path


def side_walk(triangle):
    """The letters of the side, gone round step by step, ending with the first one again."""
    return "".join([triangle[row][place] for row, place in side_path(triangle)])


def breaking(triangle):
    """The spots that break the rule, by rows, then places, as the document words it."""
    last = len(triangle) - 1
    found = {(0, place) for place in range(last + 1) if triangle[0][place] == "c"}
    found |= {(row, 0) for row in range(last + 1) if triangle[row][0] == "b"}
    found |= {(row, last - row) for row in range(last + 1) if triangle[row][last - row] == "a"}
    return sorted(found)


def keeping(triangle):
    """A triangle that keeps the rule: this one, with other letters at those spots that break it."""
    rows = [list(letters) for letters in triangle]
    last = len(triangle) - 1
    for at in range(1, last):
        rows[0][at] = rows[0][at].replace("c", "a")
        rows[at][0] = rows[at][0].replace("b", "c")
        rows[at][-1] = rows[at][-1].replace("a", "b")
    rows[0][0], rows[0][last], rows[last][0] = "a", "b", "c"
    return ["".join(letters) for letters in rows]


def keepers():
    """All triangles of two, three and four rows that keep the rule."""
    made = [["ab", "c"]]
    made += [["a" + low + "b", left + right, "c"] for low, left, right in product("ab", "ac", "bc")]
    for word in product("ab", "ab", "ac", "abc", "bc", "ac", "bc"):
        made.append(["a" + word[0] + word[1] + "b", word[2] + word[3] + word[4], word[5] + word[6], "c"])
    return made


def doors_between(triangle):
    """Of each door, as the set of its two spots, the small triangles that have it: two, or one at the side."""
    found = {}
    for small, three in small_spots(triangle).items():
        for pair in combinations(three, 2):
            if {triangle[row][place] for row, place in pair} == {"a", "b"}:
                found.setdefault(frozenset(pair), []).append(small)
    return found


def side_counts(triangle):
    """Of each step of the side, as the set of its two spots, its count."""
    path = side_path(triangle)
    return {frozenset(path[at:at + 2]): at for at in range(len(path) - 1)}


def slow_walk(triangle, small, gone):
    """The small triangles walked from one on, and the count of the door out, or None: by the doors not gone through.

    In gone stand the doors gone through before; those gone through now are added to it, in turn.
    """
    between = doors_between(triangle)
    walked = [small]
    while True:
        ways = [door for door in between if walked[-1] in between[door] and door not in gone]
        if not ways:
            return walked, None
        assert len(ways) == 1
        gone.append(ways[0])
        beyond = [other for other in between[ways[0]] if other != walked[-1]]
        if not beyond:
            return walked, side_counts(triangle)[ways[0]]
        walked.append(beyond[0])
