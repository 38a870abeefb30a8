"""Triangles of letters: their small triangles, the side with its doors, and the rule."""

from doorwalk.errors import BadSmall, BadSpot, BadTriangle

# A tuple and not one text: an empty or longer text would be found in "abc" too.
LETTERS = ("a", "b", "c")
LEFT_ROUNDS = ("abc", "bca", "cab")
RIGHT_ROUNDS = ("acb", "cba", "bac")
DOOR_STEPS = ("ab", "ba")


def is_number(value):
    """Tell whether this is a whole number."""
    # Python takes True and False for integers, the document does not.
    return isinstance(value, int) and not isinstance(value, bool)


def is_letter(value):
    """Tell whether this is one letter of the three."""
    return isinstance(value, str) and value in LETTERS


def is_row(row, many):
    """Tell whether this is a row of so many letters."""
    return isinstance(row, str) and len(row) == many and all([letter in LETTERS for letter in row])


def is_triangle(triangle):
    """Tell whether this is a triangle."""
    if not isinstance(triangle, list) or len(triangle) < 2:
        return False
    many = len(triangle)
    return all([is_row(row, many - at) for at, row in enumerate(triangle)])


def is_spot(triangle, row, place):
    """Tell whether this triangle has a spot at this row and place."""
    if not is_number(row) or not is_number(place):
        return False
    return 0 <= row < len(triangle) and 0 <= place < len(triangle[row])


def is_small(triangle, small):
    """Tell whether this is a small triangle of this triangle."""
    if not isinstance(small, tuple) or len(small) != 3:
        return False
    if not all([is_number(part) for part in small]) or small[2] not in (0, 1):
        return False
    return all([is_spot(triangle, row, place) for row, place in corners(small)])


def check_triangle(triangle):
    """Refuse what is no triangle."""
    if not is_triangle(triangle):
        raise BadTriangle("this is no triangle")


def check_small(triangle, small):
    """Refuse what is no small triangle of this triangle."""
    if not is_small(triangle, small):
        raise BadSmall("this is no small triangle of the triangle")


def corners(small):
    """List the three spots of a small triangle, gone round to the left."""
    row, place, up = small
    if up == 1:
        return [(row, place), (row, place + 1), (row + 1, place)]
    return [(row, place + 1), (row + 1, place + 1), (row + 1, place)]


def all_smalls(triangle):
    """List all small triangles, rising."""
    smalls = []
    for row in range(len(triangle) - 1):
        last = len(triangle[row]) - 2
        for place in range(last + 1):
            # At the last place the row above has no next place for the kind 0.
            if place < last:
                smalls.append((row, place, 0))
            smalls.append((row, place, 1))
    return smalls


def letters_at(triangle, spots):
    """Join the letters that stand at these spots."""
    return "".join([triangle[row][place] for row, place in spots])


def turn_of(triangle, small):
    """Tell the turn of what surely is a small triangle of a triangle."""
    round_left = letters_at(triangle, corners(small))
    if round_left in LEFT_ROUNDS:
        return 1
    if round_left in RIGHT_ROUNDS:
        return -1
    return 0


def side_spots(triangle):
    """List the spots of the side, gone round to the left, each once."""
    last = len(triangle) - 1
    below = [(0, place) for place in range(last)]
    right = [(row, last - row) for row in range(last)]
    left = [(row, 0) for row in range(last, 0, -1)]
    return below + right + left


def side_steps(triangle):
    """List the steps of the side, each as the pair of the spots from and to which it leads."""
    spots = side_spots(triangle)
    return list(zip(spots, spots[1:] + spots[:1]))


def is_door(triangle, step):
    """Tell whether a step from one spot to another leads between an a and a b."""
    return letters_at(triangle, step) in DOOR_STEPS


def breaks_rule(triangle, row, place):
    """Tell whether what surely is a spot of a triangle breaks the rule."""
    letter = triangle[row][place]
    if row == 0 and letter == "c":
        return True
    if place == 0 and letter == "b":
        return True
    return place == len(triangle[row]) - 1 and letter == "a"


def fulls(triangle):
    """List all full small triangles, rising as tuples are."""
    check_triangle(triangle)
    return [small for small in all_smalls(triangle) if turn_of(triangle, small) != 0]


def around(triangle):
    """Tell how many steps of the side lead from a to b, less those from b to a."""
    check_triangle(triangle)
    steps = [letters_at(triangle, step) for step in side_steps(triangle)]
    return steps.count("ab") - steps.count("ba")


def doors(triangle):
    """List the counts of all doors of the side, rising."""
    check_triangle(triangle)
    return [at for at, step in enumerate(side_steps(triangle)) if is_door(triangle, step)]


def turn(triangle, small):
    """Tell the turn of a small triangle: 1, -1, or 0 if it is not full."""
    check_triangle(triangle)
    check_small(triangle, small)
    return turn_of(triangle, small)


def put(triangle, row, place, letter):
    """Tell the triangle that has this letter at this spot."""
    check_triangle(triangle)
    if not is_spot(triangle, row, place):
        raise BadSpot("this is no spot of the triangle")
    if not is_letter(letter):
        raise BadSpot("this is no letter of the three")
    rows = list(triangle)
    rows[row] = rows[row][:place] + letter + rows[row][place + 1:]
    return rows
