"""Nearplane: the plane that comes nearest to points, in exact fractions."""
