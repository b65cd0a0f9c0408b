"""Spaces of cells and their maps."""
