"""What is raised where something handed in is refused.

No message shows what was handed in: a number may be too long for Python to write out.
"""


class WalkError(ValueError):
    """Something handed in is refused."""


class BadTriangle(WalkError):
    """What was handed in as a triangle is none."""


class BadSmall(WalkError):
    """What was handed in as a small triangle is none that is asked for."""


class BadDoor(WalkError):
    """What was handed in as a door is none of the side."""


class BadSpot(WalkError):
    """What was handed in as a spot, or as a letter for it, is none."""
