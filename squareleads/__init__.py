"""Squareleads: whole numbers made of squares, or of triangles."""
