"""What is told of a triangle, and the walks in it from door to door.

A door is held as a step between its two spots, gone round to the left of the small triangle that it is a door of.
So the same step the other way belongs to the small triangle on its other side, and a step of the side to the one
within.
"""

from doorwalk.answers import Breaks, Ended, Full, Out
from doorwalk.errors import BadDoor, BadSmall
from doorwalk.triangles import breaks_rule, check_small, check_triangle, corners, doors, fulls
from doorwalk.triangles import is_door, is_number, side_steps, turn_of


def left_of(step):
    """Tell the small triangle to the left of a step from a spot to one beside it."""
    (row, place), (next_row, next_place) = step
    # Turned to the left by a sixth of the round, the step leads from its first spot to the third one.
    third_row = next_row + next_place - place
    third_place = place + row - next_row
    rows = [row, next_row, third_row]
    low = min(rows)
    # One with two spots in its lower row points up.
    return (low, min(place, next_place, third_place), rows.count(low) - 1)


def way_on(triangle, small, came):
    """Tell the door of a small triangle that is not the one come in by, or None."""
    first, second, third = corners(small)
    for step in ((first, second), (second, third), (third, first)):
        if step != came and is_door(triangle, step):
            return step
    return None


def walk_on(triangle, small, came):
    """Walk as far as can be from a small triangle, come in by this door, or begun there if it is None."""
    counts = {step: at for at, step in enumerate(side_steps(triangle))}
    smalls = [small]
    way = way_on(triangle, small, came)
    while way is not None and way not in counts:
        here, there = way
        came = (there, here)
        small = left_of(came)
        smalls.append(small)
        way = way_on(triangle, small, came)
    if way is None:
        return Ended(smalls)
    return Out(smalls, counts[way])


def told(triangle):
    """Tell a full small triangle where the triangle keeps the rule, else the first spot that breaks it."""
    check_triangle(triangle)
    for row, letters in enumerate(triangle):
        for place in range(len(letters)):
            if breaks_rule(triangle, row, place):
                return Breaks(row, place)
    row, place, up = fulls(triangle)[0]
    return Full(row, place, up)


def walk(triangle, door):
    """Walk in by a door of the side, as far as can be."""
    check_triangle(triangle)
    # The kind goes first: True and 1.0 are found among the counts too.
    if not is_number(door) or door not in doors(triangle):
        raise BadDoor("this is no count of a door of the side")
    step = side_steps(triangle)[door]
    return walk_on(triangle, left_of(step), step)


def walk_out(triangle, small):
    """Walk from a full small triangle, as far as can be."""
    check_triangle(triangle)
    check_small(triangle, small)
    if turn_of(triangle, small) == 0:
        raise BadSmall("this small triangle is not full")
    # A triple made anew, since what is handed in is not kept.
    row, place, up = small
    return walk_on(triangle, (row, place, up), None)
