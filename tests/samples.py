"""Triangles for the tests, values that are refused, and a second way to count by coordinates."""

from itertools import product

# (triangle, the turn of each small triangle, doors, around), worked out by hand.
BY_HAND = [
    (["ab", "c"], {(0, 0, 1): 1}, [0], 1),
    (["ba", "c"], {(0, 0, 1): -1}, [0], -1),
    (["bc", "a"], {(0, 0, 1): 1}, [2], 1),
    (["cb", "a"], {(0, 0, 1): -1}, [1], -1),
    (["ca", "b"], {(0, 0, 1): 1}, [1], 1),
    (["ac", "b"], {(0, 0, 1): -1}, [2], -1),
    (["aa", "b"], {(0, 0, 1): 0}, [1, 2], 0),
    (["cc", "c"], {(0, 0, 1): 0}, [], 0),
    (["aab", "cb", "c"], {(0, 0, 0): 1, (0, 0, 1): 0, (0, 1, 1): 0, (1, 0, 1): 0}, [1], 1),
    (["bab", "cb", "c"], {(0, 0, 0): 1, (0, 0, 1): -1, (0, 1, 1): 0, (1, 0, 1): 0}, [0, 1], 0),
    (["bbb", "ab", "a"], {(0, 0, 0): 0, (0, 0, 1): 0, (0, 1, 1): 0, (1, 0, 1): 0}, [3, 5], 0),
    (["abab", "cac", "bc", "a"],
     {(0, 0, 0): -1, (0, 0, 1): 1, (0, 1, 0): 0, (0, 1, 1): 0, (0, 2, 1): 1,
      (1, 0, 0): -1, (1, 0, 1): 1, (1, 1, 1): 0, (2, 0, 1): 1},
     [0, 1, 2, 6], 2),
]

NO_TRIANGLES = [
    None, True, False, 0, 2, 10 ** 5000, "", "ab", "abc", b"ab", (), ("ab", "c"), {}, {"ab": "c"}, {"ab", "c"},
    object(), list, 1.5,
    [], ["a"], ["ab"], [[]],
    ["ab", ""], ["ab", "cc"], ["a", "b"], ["abc", "c"], ["c", "ab"], ["abc", "ab"], ["abc", "ab", ""],
    ["abc", "a", "ab"], ["abc", "ab", "c", ""], ["ab", "c", "a"], ["abc", "abc", "abc"],
    ["ab", None], ["ab", 1], ["ab", True], [None, "c"], ["ab", b"c"], [b"ab", "c"], ["ab", ["c"]],
    [["a", "b"], ["c"]], [("a", "b"), "c"], ["ab", ("c",)], [{"a": 1, "b": 2}, "c"],
    ["ab", "d"], ["aB", "c"], ["ab", "C"], ["a ", "c"], ["ab", " "], ["a1", "c"], ["ab", "\n"], ["a\u0430", "c"],
    ["abc", "ad", "c"], ["abd", "ab", "c"], ["dbc", "ab", "c"], ["abc", "ab", "x"], ["a\u00e4c", "ab", "c"],
]


def two_rows():
    """All triangles of two rows."""
    return [["".join(word[:2]), word[2]] for word in product("abc", repeat=3)]


def three_rows():
    """All triangles of three rows."""
    return [["".join(word[:3]), "".join(word[3:5]), word[5]] for word in product("abc", repeat=6)]


def mixed(many, letters, seed):
    """A triangle of so many rows, its letters drawn from a text by plain counting."""
    rows = []
    for size in range(many, 0, -1):
        row = ""
        for _ in range(size):
            seed = (seed * 1103515245 + 12345) % 2 ** 31
            row += letters[(seed >> 16) % len(letters)]
        rows.append(row)
    return rows


def larger():
    """Triangles of four and more rows: any letters, few of one, none full."""
    made = []
    for many in (4, 5, 6, 9, 14):
        for seed in range(6):
            made.append(mixed(many, "abc", seed))
            made.append(mixed(many, "aaaaabbbbbc", seed))
            made.append(mixed(many, "abbbbbbbccc", seed))
        made.append(mixed(many, "ab", many))
        made.append(mixed(many, "bc", many))
        made.append(mixed(many, "c", many))
    return made


def point(row, place):
    """Where a spot lies, in halves, so that all are whole numbers."""
    return 2 * place + row, 2 * row


def cross(first, second, third):
    """Above 0 just if the three points go round to the left."""
    return ((second[0] - first[0]) * (third[1] - first[1])
            - (second[1] - first[1]) * (third[0] - first[0]))


def spots(triangle):
    return [(row, place) for row in range(len(triangle)) for place in range(len(triangle) - row)]


def small_spots(triangle):
    """Each small triangle and its spots, as the document words them, kept where all are spots."""
    there = set(spots(triangle))
    found = {}
    for row in range(-1, len(triangle) + 1):
        for place in range(-1, len(triangle) + 1):
            upright = {(row, place), (row, place + 1), (row + 1, place)}
            hanging = {(row, place + 1), (row + 1, place + 1), (row + 1, place)}
            if upright <= there:
                found[(row, place, 1)] = sorted(upright)
            if hanging <= there:
                found[(row, place, 0)] = sorted(hanging)
    return found


def turn_by_points(triangle, three):
    """The turn by where the letters lie: the sign of the round from a to b to c."""
    at = {triangle[row][place]: point(row, place) for row, place in three}
    if len(at) < 3:
        return 0
    return 1 if cross(at["a"], at["b"], at["c"]) > 0 else -1


def side_walk(triangle):
    """The letters of the side, gone round step by step, ending with the first one again."""
    last = len(triangle) - 1
    row, place = 0, 0
    word = triangle[0][0]
    for step_row, step_place in [(0, 1)] * last + [(1, -1)] * last + [(-1, 0)] * last:
        row, place = row + step_row, place + step_place
        word += triangle[row][place]
    return word
