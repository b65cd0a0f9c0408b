"""Walks on local tables, and the sides of sheets."""
