"""Texts of grids and tables, and a shell."""
