"""Triangles of letters, the small triangles that have all three, and walks from door to door that find them."""
