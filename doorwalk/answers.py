"""What is told of a triangle, and of a walk in it."""

from doorwalk.triangles import breaks_rule, is_small, is_spot, turn_of


class Answer:
    """What is told."""


class Full(Answer):
    """A full small triangle."""

    def __init__(self, row, place, up):
        self.row = row
        self.place = place
        self.up = up

    def shows(self, triangle):
        """Tell whether the fields tell a full small triangle of this triangle."""
        small = (self.row, self.place, self.up)
        return is_small(triangle, small) and turn_of(triangle, small) != 0


class Breaks(Answer):
    """A spot that breaks the rule."""

    def __init__(self, row, place):
        self.row = row
        self.place = place

    def shows(self, triangle):
        """Tell whether the fields tell a spot of this triangle that breaks the rule."""
        return is_spot(triangle, self.row, self.place) and breaks_rule(triangle, self.row, self.place)


class Ended(Answer):
    """A walk that ends at a full small triangle: all small triangles walked, in turn."""

    def __init__(self, smalls):
        self.smalls = list(smalls)


class Out(Answer):
    """A walk that goes out: all small triangles walked, in turn, and the count of the door of the side."""

    def __init__(self, smalls, door):
        self.smalls = list(smalls)
        self.door = door
