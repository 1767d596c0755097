"""Fencefield: fences with whole corners, and the points on them and inside."""
