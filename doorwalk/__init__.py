"""Triangles of letters, and the small triangles of theirs that have all three."""
