"""Integers, rows and grids."""
